import PyProof.Rows.All
import Wide.All
import OpenK.AllK
import Wide.FinOn
import Lean
import PyProof.EqAt
import PyProof.EqKinds
import PyProof.TupleCall
import PyProof.StationsW
import PyProof.RulesAs
import PyProof.ExcClass2
import PyProof.Rows.Exc
import OpenK.KMake
import PyProof.InstStoreFacts
import OpenK.KCls
import PyProof.ExcArgsOwn
import PyProof.ExcAttrAll.ValueError
import PyProof.FitsInt
import PyProof.FString
import PyProof.FString4
import PyProof.StrLawsRepr
import PyProof.NsDelKeeps
import PyProof.NoPylong
import PyProof.FitsBits
import PyProof.Rows.RuleM_int
import PyProof.P3In
import PyProof.NeData
import PyProof.Draws
import PyProof.ZipIter
import PyProof.EnumMake
import PySem.SetOps
import PyProof.SetScanFacts
import PyProof.WalksMore
import PyProof.SetNew
import PyProof.SetKind
import PyProof.Rows.SetFrom
import PyProof.TupleKey
import PyProof.IsRules
import PyProof.SetRoads
import PySem.Challenge.RW_mostrows_k17_questions_let_by_and_refuse
set_option Elab.async false
set_option linter.all false
set_option maxRecDepth 100000
set_option maxHeartbeats 4000000
namespace Hd
open PySem PySem.W
def mD(s:Stmt)(i:Nat):Stmt:=match s with
 | .ClassDef _ _ _ b _ _ _ _ _ _ _=>b.getD i (.Pass ⟨0,0,0,0⟩)
 | _=>.Pass ⟨0,0,0,0⟩
def top(i:Nat):Stmt:=PySem.Challenge.pw_mostrows_k17_questions_let_by_and_refuse.main.body.getD i (.Pass ⟨0,0,0,0⟩)
def kG(x q:Str)(s:Stmt)(m:Value)(c:Addr):FuncData:=match s with
 | .FunctionDef _ a b _ _ _ e _ _ _=>fnOf x q a b e .none .none .none m none (.ref c) .none
 | _=>default
def dD9:DefRec:=match top 37 with
 | .FunctionDef n a b _ _ _ e _ _ p=>⟨n,a,b,e,p⟩
 | _=>⟨"",default,[],default,default⟩
noncomputable def kE(P:Params)(x:Str)(t:Tok)(v:Value):DictEntry:=⟨PyData.keyHash P x,.str x t,v⟩
noncomputable def kT(l:List Value):Obj:=⟨.type "tuple",none,.seq l.toArray 0,#[]⟩
noncomputable def kF(f:FuncData):Obj:=⟨.type "function",none,.func f,#[]⟩
noncomputable def cQ4:=kG "__init__" "BadTable.__init__" (mD (top 2) 0) (.str "mostrows.errors" 187) 40
noncomputable def cQ5:=kG "__init__" "BadQuestion.__init__" (mD (top 3) 0) (.str "mostrows.errors" 187) 59
noncomputable def cQ6:=kG "__init__" "BadHouse.__init__" (mD (top 4) 0) (.str "mostrows.errors" 187) 78
noncomputable def cQ7:=kG "__init__" "NoRow.__init__" (mD (top 5) 0) (.str "mostrows.errors" 187) 97
noncomputable def bY0:=kG "is_name" "is_name" (top 9) (.str "mostrows.names" 305) 107
noncomputable def bY1:=kG "are_unlike_names" "are_unlike_names" (top 10) (.str "mostrows.names" 305) 112
noncomputable def bY2:=kG "names_of" "names_of" (top 15) (.str "mostrows.questions" 323) 117
noncomputable def bY3:=kG "columns_of" "columns_of" (top 16) (.str "mostrows.questions" 323) 122
noncomputable def bY4:=kG "is_right_alone" "is_right_alone" (top 17) (.str "mostrows.questions" 323) 129
noncomputable def bY5:=kG "is_right_behind" "is_right_behind" (top 18) (.str "mostrows.questions" 323) 136
noncomputable def bY6:=kG "look" "look" (top 19) (.str "mostrows.questions" 323) 143
noncomputable def bY7:=kG "_law_box" "_law_box" (top 21) (.str "law_mostrows_k17_questions_let_by_and_refuse" 369) 150
noncomputable def bY8:=kG "_law_take" "_law_take" (top 22) (.str "law_mostrows_k17_questions_let_by_and_refuse" 369) 157
noncomputable def bY9:=kG "_law_order" "_law_order" (top 23) (.str "law_mostrows_k17_questions_let_by_and_refuse" 369) 164
noncomputable def bZ0:=kG "_law_names" "_law_names" (top 24) (.str "law_mostrows_k17_questions_let_by_and_refuse" 369) 169
noncomputable def bZ1:=kG "_law_some_columns" "_law_some_columns" (top 25) (.str "law_mostrows_k17_questions_let_by_and_refuse" 369) 176
noncomputable def bZ2:=kG "_law_any_tables" "_law_any_tables" (top 26) (.str "law_mostrows_k17_questions_let_by_and_refuse" 369) 183
noncomputable def bZ3:=kG "_law_ear_tables" "_law_ear_tables" (top 27) (.str "law_mostrows_k17_questions_let_by_and_refuse" 369) 190
noncomputable def bZ4:=kG "_law_ring_tables" "_law_ring_tables" (top 28) (.str "law_mostrows_k17_questions_let_by_and_refuse" 369) 195
noncomputable def bZ5:=kG "_law_question" "_law_question" (top 29) (.str "law_mostrows_k17_questions_let_by_and_refuse" 369) 202
noncomputable def bZ6:=kG "_law_columns" "_law_columns" (top 30) (.str "law_mostrows_k17_questions_let_by_and_refuse" 369) 207
noncomputable def bZ7:=kG "_law_whole" "_law_whole" (top 31) (.str "law_mostrows_k17_questions_let_by_and_refuse" 369) 214
noncomputable def bZ8:=kG "_law_bad_columns" "_law_bad_columns" (top 32) (.str "law_mostrows_k17_questions_let_by_and_refuse" 369) 221
noncomputable def bZ9:=kG "_law_changed" "_law_changed" (top 33) (.str "law_mostrows_k17_questions_let_by_and_refuse" 369) 228
noncomputable def cA0:=kG "_law_is_name" "_law_is_name" (top 34) (.str "law_mostrows_k17_questions_let_by_and_refuse" 369) 233
noncomputable def cA1:=kG "_law_due" "_law_due" (top 35) (.str "law_mostrows_k17_questions_let_by_and_refuse" 369) 238
noncomputable def cA2:=kG "_law_right" "_law_right" (top 36) (.str "law_mostrows_k17_questions_let_by_and_refuse" 369) 245
noncomputable def aG4:=kG "law" "law" (top 37) (.str "law_mostrows_k17_questions_let_by_and_refuse" 369) 252
noncomputable def kC(x:Str)(a:Tok)(q:Str)(b c:Tok)(d e f:Int)(g:Addr)(h:Int)(i j k l:Addr)(m n:Int)(o:Tok):Obj:=⟨.type "code",none,.fields #[.str x a,.str q b,.str "/claim/cut.py" c,.int d 0,.int e 0,.int 0 0,.int 0 0,.int f 0,.ref g,.bool true,.int h 0,.ref i,.none,.ref j,.ref k,.ref l,.int m 0,.int n 0,.str "/claim/cut.py" o],#[]⟩
noncomputable def KF(P:Params):PySem.W.Frag:=[
(2,⟨.none,none,(.dict #[] 0),#[]⟩),
(3,⟨(.type "dict"),none,(.dict #[kE P "__name__" 165 (.str "law_mostrows_k17_questions_let_by_and_refuse" 369),kE P "__doc__" 166 .none,kE P "__package__" 167 .none,kE P "__loader__" 168 (.builtin "__main__.__loader__#opaque"),kE P "__spec__" 169 .none,kE P "__annotations__" 170 (.ref 6),kE P "__builtins__" 171 (.ref 4),kE P "__file__" 173 (.str "/claim/cut.py" 172),kE P "__cached__" 174 .none,kE P "RowsError" 206 (.ref 24),kE P "BadTable" 231 (.ref 44),kE P "BadQuestion" 256 (.ref 63),kE P "BadHouse" 281 (.ref 82),kE P "NoRow" 304 (.ref 101),kE P "LETTERS" 308 (.str "abcdefghijklmnopqrstuvwxyz" 307),kE P "LONGEST" 310 (.int 6 309),kE P "is_name" 316 (.ref 108),kE P "are_unlike_names" 322 (.ref 113),kE P "MOST_TABLES" 326 (.int 6 325),kE P "MOST_COLUMNS" 328 (.int 6 327),kE P "WIDEST" 330 (.int 4 329),kE P "names_of" 336 (.ref 118),kE P "columns_of" 342 (.ref 123),kE P "is_right_alone" 350 (.ref 130),kE P "is_right_behind" 359 (.ref 137),kE P "look" 368 (.ref 144),kE P "_law_box" 380 (.ref 151),kE P "_law_take" 390 (.ref 158),kE P "_law_order" 400 (.ref 165),kE P "_law_names" 406 (.ref 170),kE P "_law_some_columns" 415 (.ref 177),kE P "_law_any_tables" 426 (.ref 184),kE P "_law_ear_tables" 440 (.ref 191),kE P "_law_ring_tables" 446 (.ref 196),kE P "_law_question" 458 (.ref 203),kE P "_law_columns" 464 (.ref 208),kE P "_law_whole" 471 (.ref 215),kE P "_law_bad_columns" 482 (.ref 222),kE P "_law_changed" 494 (.ref 229),kE P "_law_is_name" 500 (.ref 234),kE P "_law_due" 506 (.ref 239),kE P "_law_right" 518 (.ref 246),kE P "law" 530 (.ref 253)] 43),#[]⟩),
(15,kT [(.type "ValueError")]),
(22,kT []),
(23,⟨(.type "dict"),none,(.dict #[kE P "__module__" 196 (.str "mostrows.errors" 187),kE P "__firstlineno__" 200 (.int 2 199),kE P "__static_attributes__" 201 (.ref 22),kE P "__weakref__" 203 (.ref 25),kE P "__doc__" 204 .none] 3),#[]⟩),
(24,⟨(.type "type"),none,(.cls ⟨"RowsError",[(.type "ValueError")],[(.ref 24),(.type "ValueError"),(.type "Exception"),(.type "BaseException"),(.type "object")],23,"RowsError",true,[],[(.ref 44),(.ref 63),(.ref 82),(.ref 101)],false,none,false⟩),#[(some (.ref 15)),none,(some (.str "RowsError" 189)),(some (.str "RowsError" 197)),(some (.builtin "ValueError.__new__")),(some (.bool true))]⟩),
(25,⟨(.type "getset_descriptor"),none,(.fields #[(.str "__weakref__" 202),(.ref 24),(.builtin "ExceptionGroup.__weakref__"),.none]),#[]⟩),
(28,kT [(.ref 24)]),
(35,kT []),
(37,kT [(.str "self" 222),(.str "at" 223)]),
(38,kT []),
(40,kC "__init__" 219 "BadTable.__init__" 220 221 6 2 3 35 181 36 37 38 39 224 6 225),
(41,kF cQ4),
(42,kT [(.str "at" 227)]),
(43,⟨(.type "dict"),none,(.dict #[kE P "__module__" 214 (.str "mostrows.errors" 187),kE P "__firstlineno__" 218 (.int 4 217),kE P "__init__" 226 (.ref 41),kE P "__static_attributes__" 228 (.ref 42),kE P "__doc__" 229 .none] 2),#[]⟩),
(44,⟨(.type "type"),none,(.cls ⟨"BadTable",[(.ref 24)],[(.ref 44),(.ref 24),(.type "ValueError"),(.type "Exception"),(.type "BaseException"),(.type "object")],43,"BadTable",true,[],[],false,none,false⟩),#[(some (.ref 28)),none,(some (.str "BadTable" 207)),(some (.str "BadTable" 215)),(some (.builtin "ValueError.__new__")),(some (.bool true))]⟩),
(47,kT [(.ref 24)]),
(54,kT []),
(56,kT [(.str "self" 247),(.str "at" 248)]),
(57,kT []),
(59,kC "__init__" 244 "BadQuestion.__init__" 245 246 11 2 3 54 181 55 56 57 58 249 11 250),
(60,kF cQ5),
(61,kT [(.str "at" 252)]),
(62,⟨(.type "dict"),none,(.dict #[kE P "__module__" 239 (.str "mostrows.errors" 187),kE P "__firstlineno__" 243 (.int 9 242),kE P "__init__" 251 (.ref 60),kE P "__static_attributes__" 253 (.ref 61),kE P "__doc__" 254 .none] 2),#[]⟩),
(63,⟨(.type "type"),none,(.cls ⟨"BadQuestion",[(.ref 24)],[(.ref 63),(.ref 24),(.type "ValueError"),(.type "Exception"),(.type "BaseException"),(.type "object")],62,"BadQuestion",true,[],[],false,none,false⟩),#[(some (.ref 47)),none,(some (.str "BadQuestion" 232)),(some (.str "BadQuestion" 240)),(some (.builtin "ValueError.__new__")),(some (.bool true))]⟩),
(66,kT [(.ref 24)]),
(73,kT []),
(75,kT [(.str "self" 272),(.str "table" 273)]),
(76,kT []),
(78,kC "__init__" 269 "BadHouse.__init__" 270 271 16 2 3 73 181 74 75 76 77 274 16 275),
(79,kF cQ6),
(80,kT [(.str "table" 277)]),
(81,⟨(.type "dict"),none,(.dict #[kE P "__module__" 264 (.str "mostrows.errors" 187),kE P "__firstlineno__" 268 (.int 14 267),kE P "__init__" 276 (.ref 79),kE P "__static_attributes__" 278 (.ref 80),kE P "__doc__" 279 .none] 2),#[]⟩),
(82,⟨(.type "type"),none,(.cls ⟨"BadHouse",[(.ref 24)],[(.ref 82),(.ref 24),(.type "ValueError"),(.type "Exception"),(.type "BaseException"),(.type "object")],81,"BadHouse",true,[],[],false,none,false⟩),#[(some (.ref 66)),none,(some (.str "BadHouse" 257)),(some (.str "BadHouse" 265)),(some (.builtin "ValueError.__new__")),(some (.bool true))]⟩),
(85,kT [(.ref 24)]),
(92,kT []),
(94,kT [(.str "self" 297)]),
(95,kT []),
(97,kC "__init__" 294 "NoRow.__init__" 295 296 21 1 3 92 181 93 94 95 96 298 21 299),
(98,kF cQ7),
(99,kT []),
(100,⟨(.type "dict"),none,(.dict #[kE P "__module__" 289 (.str "mostrows.errors" 187),kE P "__firstlineno__" 293 (.int 19 292),kE P "__init__" 300 (.ref 98),kE P "__static_attributes__" 301 (.ref 99),kE P "__doc__" 302 .none] 2),#[]⟩),
(101,⟨(.type "type"),none,(.cls ⟨"NoRow",[(.ref 24)],[(.ref 101),(.ref 24),(.type "ValueError"),(.type "Exception"),(.type "BaseException"),(.type "object")],100,"NoRow",true,[],[],false,none,false⟩),#[(some (.ref 85)),none,(some (.str "NoRow" 282)),(some (.str "NoRow" 290)),(some (.builtin "ValueError.__new__")),(some (.bool true))]⟩),
(104,kT []),
(107,⟨(.type "code"),none,(.fields #[(.str "is_name" 311),(.str "is_name" 312),(.str "/claim/cut.py" 313),(.int 26 0),(.int 1 0),(.int 0 0),(.int 0 0),(.int 3 0),(.ref 104),(.bool true),(.int 181 0),(.ref 105),.none,.none,.none,(.ref 106),(.int 314 0),(.int 26 0),(.str "/claim/cut.py" 315)]),#[]⟩),
(108,kF bY0),
(109,kT []),
(112,⟨(.type "code"),none,(.fields #[(.str "are_unlike_names" 317),(.str "are_unlike_names" 318),(.str "/claim/cut.py" 319),(.int 28 0),(.int 1 0),(.int 0 0),(.int 0 0),(.int 3 0),(.ref 109),(.bool true),(.int 181 0),(.ref 110),.none,.none,.none,(.ref 111),(.int 320 0),(.int 28 0),(.str "/claim/cut.py" 321)]),#[]⟩),
(113,kF bY1),
(114,kT []),
(117,⟨(.type "code"),none,(.fields #[(.str "names_of" 331),(.str "names_of" 332),(.str "/claim/cut.py" 333),(.int 34 0),(.int 1 0),(.int 0 0),(.int 0 0),(.int 3 0),(.ref 114),(.bool true),(.int 181 0),(.ref 115),.none,.none,.none,(.ref 116),(.int 334 0),(.int 34 0),(.str "/claim/cut.py" 335)]),#[]⟩),
(118,kF bY2),
(119,kT []),
(122,⟨(.type "code"),none,(.fields #[(.str "columns_of" 337),(.str "columns_of" 338),(.str "/claim/cut.py" 339),(.int 36 0),(.int 1 0),(.int 0 0),(.int 0 0),(.int 3 0),(.ref 119),(.bool true),(.int 181 0),(.ref 120),.none,.none,.none,(.ref 121),(.int 340 0),(.int 36 0),(.str "/claim/cut.py" 341)]),#[]⟩),
(123,kF bY3),
(124,kT []),
(126,kT [(.str "name" 346),(.str "columns" 347)]),
(127,kT []),
(129,kC "is_right_alone" 343 "is_right_alone" 344 345 41 2 3 124 181 125 126 127 128 348 41 349),
(130,kF bY4),
(131,kT []),
(133,kT [(.str "ahead" 354),(.str "name" 355),(.str "columns" 356)]),
(134,kT []),
(136,kC "is_right_behind" 351 "is_right_behind" 352 353 43 3 3 131 181 132 133 134 135 357 43 358),
(137,kF bY5),
(138,kT []),
(140,kT [(.str "question" 363),(.str "at" 364),(.str "pair" 365)]),
(141,kT []),
(143,kC "look" 360 "look" 361 362 47 1 3 138 181 139 140 141 142 366 47 367),
(144,kF bY6),
(145,kT []),
(147,kT [(.str "_law_script" 374),(.str "_law_k" 375),(.str "_law_cell" 376),(.str "_law_seed" 377)]),
(148,kT []),
(150,kC "_law_box" 371 "_law_box" 372 373 55 2 3 145 181 146 147 148 149 378 55 379),
(151,kF bY7),
(152,kT []),
(154,kT [(.str "_law_box_here" 384),(.str "_law_many" 385),(.str "_law_digit" 386),(.str "_law_one" 387)]),
(155,kT []),
(157,kC "_law_take" 381 "_law_take" 382 383 63 2 3 152 181 153 154 155 156 388 63 389),
(158,kF bY8),
(159,kT []),
(161,kT [(.str "_law_box_here" 394),(.str "_law_things" 395),(.str "_law_left" 396),(.str "_law_found" 397)]),
(162,kT []),
(164,kC "_law_order" 391 "_law_order" 392 393 71 2 3 159 181 160 161 162 163 398 71 399),
(165,kF bY9),
(166,kT []),
(169,⟨(.type "code"),none,(.fields #[(.str "_law_names" 401),(.str "_law_names" 402),(.str "/claim/cut.py" 403),(.int 77 0),(.int 2 0),(.int 0 0),(.int 0 0),(.int 3 0),(.ref 166),(.bool true),(.int 181 0),(.ref 167),.none,.none,.none,(.ref 168),(.int 404 0),(.int 77 0),(.str "/claim/cut.py" 405)]),#[]⟩),
(170,kF bZ0),
(171,kT []),
(173,kT [(.str "_law_box_here" 410),(.str "_law_names_here" 411),(.str "_law_many" 412)]),
(174,kT []),
(176,kC "_law_some_columns" 407 "_law_some_columns" 408 409 97 3 3 171 181 172 173 174 175 413 97 414),
(177,kF bZ1),
(178,kT []),
(180,kT [(.str "_law_box_here" 419),(.str "_law_names_here" 420),(.str "_law_pool" 421),(.str "_law_found" 422),(.str "_law_k" 423)]),
(181,kT []),
(183,kC "_law_any_tables" 416 "_law_any_tables" 417 418 99 2 3 178 181 179 180 181 182 424 99 425),
(184,kF bZ2),
(185,kT []),
(187,kT [(.str "_law_box_here" 430),(.str "_law_names_here" 431),(.str "_law_left" 432),(.str "_law_found" 433),(.str "_law_k" 434),(.str "_law_own" 435),(.str "_law_one" 436),(.str "_law_j" 437)]),
(188,kT []),
(190,kC "_law_ear_tables" 427 "_law_ear_tables" 428 429 105 2 3 185 181 186 187 188 189 438 105 439),
(191,kF bZ3),
(192,kT []),
(195,⟨(.type "code"),none,(.fields #[(.str "_law_ring_tables" 441),(.str "_law_ring_tables" 442),(.str "/claim/cut.py" 443),(.int 122 0),(.int 2 0),(.int 0 0),(.int 0 0),(.int 3 0),(.ref 192),(.bool true),(.int 181 0),(.ref 193),.none,.none,.none,(.ref 194),(.int 444 0),(.int 122 0),(.str "/claim/cut.py" 445)]),#[]⟩),
(196,kF bZ4),
(197,kT []),
(199,kT [(.str "_law_box_here" 450),(.str "_law_kind" 451),(.str "_law_columns_here" 452),(.str "_law_tables" 453),(.str "_law_way" 454),(.str "_law_sets" 455)]),
(200,kT []),
(202,kC "_law_question" 447 "_law_question" 448 449 135 2 3 197 181 198 199 200 201 456 135 457),
(203,kF bZ5),
(204,kT []),
(207,⟨(.type "code"),none,(.fields #[(.str "_law_columns" 459),(.str "_law_columns" 460),(.str "/claim/cut.py" 461),(.int 149 0),(.int 1 0),(.int 0 0),(.int 0 0),(.int 3 0),(.ref 204),(.bool true),(.int 181 0),(.ref 205),.none,.none,.none,(.ref 206),(.int 462 0),(.int 149 0),(.str "/claim/cut.py" 463)]),#[]⟩),
(208,kF bZ6),
(209,kT []),
(211,kT [(.str "_law_found" 468)]),
(212,kT []),
(214,kC "_law_whole" 465 "_law_whole" 466 467 154 1 3 209 181 210 211 212 213 469 154 470),
(215,kF bZ7),
(216,kT []),
(218,kT [(.str "_law_box_here" 475),(.str "_law_own" 476),(.str "_law_form" 477),(.str "_law_at" 478),(.str "_law_bad" 479)]),
(219,kT []),
(221,kC "_law_bad_columns" 472 "_law_bad_columns" 473 474 156 2 3 216 181 217 218 219 220 480 156 481),
(222,kF bZ8),
(223,kT []),
(225,kT [(.str "_law_box_here" 486),(.str "_law_question_here" 487),(.str "_law_at" 488),(.str "_law_form" 489),(.str "_law_own" 490),(.str "_law_name" 491)]),
(226,kT []),
(228,kC "_law_changed" 483 "_law_changed" 484 485 169 2 3 223 181 224 225 226 227 492 169 493),
(229,kF bZ9),
(230,kT []),
(233,⟨(.type "code"),none,(.fields #[(.str "_law_is_name" 495),(.str "_law_is_name" 496),(.str "/claim/cut.py" 497),(.int 188 0),(.int 1 0),(.int 0 0),(.int 0 0),(.int 3 0),(.ref 230),(.bool true),(.int 181 0),(.ref 231),.none,.none,.none,(.ref 232),(.int 498 0),(.int 188 0),(.str "/claim/cut.py" 499)]),#[]⟩),
(234,kF cA0),
(235,kT []),
(238,⟨(.type "code"),none,(.fields #[(.str "_law_due" 501),(.str "_law_due" 502),(.str "/claim/cut.py" 503),(.int 191 0),(.int 1 0),(.int 0 0),(.int 0 0),(.int 3 0),(.ref 235),(.bool true),(.int 181 0),(.ref 236),.none,.none,.none,(.ref 237),(.int 504 0),(.int 191 0),(.str "/claim/cut.py" 505)]),#[]⟩),
(239,kF cA1),
(240,kT []),
(242,kT [(.str "_law_question_here" 510),(.str "_law_refused" 511),(.str "_law_found" 512),(.str "e" 513),(.str "_law_own" 514),(.str "_law_due_here" 515)]),
(243,kT []),
(245,kC "_law_right" 507 "_law_right" 508 509 208 1 3 240 181 241 242 243 244 516 208 517),
(246,kF cA2),
(247,kT []),
(249,kT [(.str "_law_script" 522),(.str "_law_box_here" 523),(.str "_law_question_here" 524),(.str "_law_k" 525),(.str "_law_other" 526),(.str "_law_turn" 527)]),
(250,kT []),
(252,kC "law" 519 "law" 520 521 220 1 3 247 181 248 249 250 251 528 220 529),
(253,kF aG4)]
noncomputable def Vw:Program:=view PySem.Challenge.pw_mostrows_k17_questions_let_by_and_refuse [1,2,3,4,5,7,8,9,10,12,13,14,15,16,17,18,19,21,22,23,24,25,26,27,28,29,30,31,32,33,34,35,36,37]
theorem dK9:PySem.Challenge.rw_mostrows_k17_questions_let_by_and_refuse.wellSaid=true:=by kernel_rfl
theorem dL0:LeftO PySem.Challenge.rw_mostrows_k17_questions_let_by_and_refuse.row.prog Vw [] (fun s=>xlAt Vw [] s&&recOk (RowW.records PySem.Challenge.rw_mostrows_k17_questions_let_by_and_refuse.row.toRowW) s) (fun s=>[2,3,15,22,23,24,25,28,35,37,38,40,41,42,43,44,47,54,56,57,59,60,61,62,63,66,73,75,76,78,79,80,81,82,85,92,94,95,97,98,99,100,101,104,107,108,109,112,113,114,117,118,119,122,123,124,126,127,129,130,131,133,134,136,137,138,140,141,143,144,145,147,148,150,151,152,154,155,157,158,159,161,162,164,165,166,169,170,171,173,174,176,177,178,180,181,183,184,185,187,188,190,191,192,195,196,197,199,200,202,203,204,207,208,209,211,212,214,215,216,218,219,221,222,223,225,226,228,229,230,233,234,235,238,239,240,242,243,245,246,247,249,250,252,253].map s.heap.get?) (fun w=>(KF w.params).map fun p=>some p.2) 4056:=fun w=>by kernel_rfl
theorem dL1(h:WalkO Vw [] (XL Vw []) (InK KF) PySem.Challenge.rw_mostrows_k17_questions_let_by_and_refuse.row.toRowW dD9 [] (fun f vs=>PySem.call f vs)):PySem.Challenge.rw_mostrows_k17_questions_let_by_and_refuse.Holds:=
 holds_law dK9 fun e=>holds_open (d:=dD9) (kwd:=[]) dL0 (InK.of fun _=>by kernel_rfl) InK.keeps (fun s e=>xl_of s (Bool.and_eq_true_iff.mp e).1) XL.keeps (by kernel_rfl) (by kernel_rfl) (by kernel_rfl) (fun s e=>recFacts_of (Bool.and_eq_true_iff.mp e).2) (by kernel_rfl) e (by kernel_rfl) ⟨rfl,rfl,rfl,rfl,rfl,by decide +kernel⟩ (by w_witness2) h
end Hd
namespace L2
open PySem PySem.Spec PyProof.Rows
abbrev Key:=Sum Int Str
def cQ8:Key->Value->Bool
 | .inl k,v=>Value.isInt k v
 | .inr x,v=>Value.isStrOf x v
def dL2(w:World):Key->Int
 | .inl k=>hashInt k
 | .inr x=>hashStr w x
theorem cT:∀ {k:Key} {v:Value},cQ8 k v=true->(∃ i t,k=Sum.inl i/\v=Value.int i t)\/(∃ x t,k=Sum.inr x/\v=Value.str x t)
 | .inl i,v,h=>by
   obtain⟨t,e⟩:=Value.isInt_shape (k:=i) (v:=v) h
   exact .inl ⟨i,t,rfl,e⟩
 | .inr x,v,h=>by
   obtain⟨t,e⟩:=Value.isStrOf_shape (x:=x) (v:=v) h
   exact .inr ⟨x,t,rfl,e⟩
theorem cQ9(a b:Int):decide ((Sum.inl a:Key)=Sum.inl b)=(a==b):=by
 by_cases e:a=b
 ·subst e;simp
 ·have h:¬ (Sum.inl a:Key)=Sum.inl b:=fun q=>e (Sum.inl.inj q)
  rw[decide_eq_false h]
  exact(beq_eq_false_iff_ne.mpr e).symm
theorem cR0(a b:Str):decide ((Sum.inr a:Key)=Sum.inr b)=decide (a=b):=by
 by_cases e:a=b
 ·subst e;simp
 ·have h:¬ (Sum.inr a:Key)=Sum.inr b:=fun q=>e (Sum.inr.inj q)
  rw[decide_eq_false h,decide_eq_false e]
theorem cR1(a:Int)(b:Str):decide ((Sum.inl a:Key)=Sum.inr b)=false:=decide_eq_false (fun q=>nomatch q)
theorem cR2(a:Str)(b:Int):decide ((Sum.inr a:Key)=Sum.inl b)=false:=decide_eq_false (fun q=>nomatch q)
def aR0(prog:Program)(w:World):PySem.KeyKind prog w Key where
 is:=cQ8
 hash:=dL2 w
 inj:=fun v a b ha hb=>by
  rcases cT ha with⟨i,t,rfl,rfl⟩ | ⟨x,t,rfl,rfl⟩
  ·rcases cT hb with⟨j,u,rfl,e⟩ | ⟨y,u,rfl,e⟩
   ·injection e with e1 _;rw[e1]
   ·exact nomatch e
  ·rcases cT hb with⟨j,u,rfl,e⟩ | ⟨y,u,rfl,e⟩
   ·exact nomatch e
   ·injection e with e1 _;rw[e1]
 byValue:=fun k v h=>by
  rcases cT h with⟨i,t,rfl,rfl⟩ | ⟨x,t,rfl,rfl⟩<;>rfl
 pyHash:=fun hv h=>by
  rcases cT hv with⟨i,t,rfl,rfl⟩ | ⟨x,t,rfl,rfl⟩
  ·exact wpAny_pyHash_int h
  ·exact wpAny_pyHash_str h
 eqBool:=fun hu hv h=>by
  rcases cT hu with⟨i,t,rfl,rfl⟩ | ⟨x,t,rfl,rfl⟩
  ·rcases cT hv with⟨j,u,rfl,rfl⟩ | ⟨y,u,rfl,rfl⟩
   ·rw[cQ9]at h;exact wpAny_eqBool_int h
   ·rw[cR1]at h;exact SeqAt.EqAt.int_str i t y u _ _ _ _ h
  ·rcases cT hv with⟨j,u,rfl,rfl⟩ | ⟨y,u,rfl,rfl⟩
   ·rw[cR2]at h;exact SeqAt.EqAt.str_int x t j u _ _ _ _ h
   ·rw[cR0]at h;exact wpAny_eqBool_str h
 «strs»:=fun k x t v h=>by
  rcases cT h with⟨i,u,rfl,e⟩ | ⟨y,u,rfl,e⟩
  ·exact nomatch e
  ·injection e with e1 _
   subst e1
   cases v<;>rfl
end L2
namespace L2
open PySem PySem.Spec PyProof.Rows
inductive V where
 | non | bl (b:Bool) | int (i:Int) | str (x:Str) | byt (b:Array UInt8) | flt (b:UInt64) | ref (a:Addr) | ty (n:String)
 deriving DecidableEq
def eG:V->Value->Prop
 | .non,u=>u=Value.none
 | .bl b,u=>u=Value.bool b
 | .int i,u=>∃ t,u=Value.int i t
 | .str x,u=>∃ t,u=Value.str x t
 | .byt b,u=>∃ t,u=Value.bytes b t
 | .flt b,u=>∃ t,u=Value.float b t
 | .ref a,u=>u=Value.ref a
 | .ty n,u=>u=Value.type n
abbrev cF:List V->List Value->Prop:=Paired eG
theorem cF.length{xs:List V}{us:List Value}(r:cF xs us):xs.length=us.length:=Paired.length r
theorem cF.get:∀ {xs:List V} {us:List Value} {i:Nat} {x:V},cF xs us->xs[i]? = some x->∃ u,us[i]? = some u/\eG x u
 | _,_,_,_,.nil,e=>by simp at e
 | _,_,0,_,.cons r _,e=>by simp at e;subst e;exact⟨_,rfl,r⟩
 | _,_,i+1,x,.cons _ t,e=>by
   obtain⟨u,h1,h2⟩:=cF.get (i:=i) (x:=x) t (by simpa using e)
   exact⟨u,by simpa using h1,h2⟩
theorem cF.set{x:V}{u:Value}(r:eG x u):∀ {xs:List V} {us:List Value} (i:Nat),cF xs us->cF (xs.set i x) (us.set i u)
 | _,_,_,.nil=>.nil
 | _,_,0,.cons _ t=>.cons r t
 | _,_,i+1,.cons q t=>.cons q (cF.set r i t)
theorem cF.append:∀ {xs ys:List V} {us ws:List Value},cF xs us->cF ys ws->cF (xs++ys) (us++ws)
 | _,_,_,_,.nil,s=>s
 | _,_,_,_,.cons r t,s=>.cons r (cF.append t s)
theorem cF.take:∀ {xs:List V} {us:List Value} (n:Nat),cF xs us->cF (xs.take n) (us.take n)
 | _,_,0,_=>.nil
 | _,_,_+1,.nil=>.nil
 | _,_,n+1,.cons r t=>.cons r (cF.take n t)
theorem cF.drop:∀ {xs:List V} {us:List Value} (n:Nat),cF xs us->cF (xs.drop n) (us.drop n)
 | _,_,0,r=>r
 | _,_,_+1,.nil=>.nil
 | _,_,n+1,.cons _ t=>cF.drop n t
def dE0:Option V->Option Value->Prop
 | some v,some u=>eG v u
 | none,none=>True
 | _,_=>False
def KV{κ:Type}:List (κ×V)->List (κ×Value)->Prop:=Paired fun(p:κ×V) (q:κ×Value)=>p.1=q.1/\eG p.2 q.2
def kV:Key->V
 | .inl i=>.int i
 | .inr x=>.str x
inductive HO where
 | lst (xs:List V)
 | tup (xs:List V)
 | dK (kvs:List (Key×V)) | dT (kvs:List (List Key×V))
 | set (S:Int->Bool) (n:Nat)
 | ins (C dx:Addr) (fs:List (Str×V))
 | own (x:Addr)
 | xd (fs:List (Str×V))
 | met (f x:Addr)
 | rng (lo hi:Int)
 | frz (o:Obj) (u:HO)
 | tbl (ps:Array Value)
 | ext (φ:Heap->Prop)
abbrev Hp:=Addr->Option HO
def upd(H:Hp)(a:Addr)(o:HO):Hp:=fun b=>if b=a then some o else H b
theorem aG{H:Hp}{a:Addr}{o:HO}:upd H a o a=some o:=by unfold upd;rw[if_pos rfl]
theorem aF{H:Hp}{a b:Addr}{o:HO}(h:b≠a):upd H a o b=H b:=by unfold upd;rw[if_neg h]
theorem cE9{H:Hp}{a:Addr}{o u:HO}:upd (upd H a o) a u=upd H a u:=by
 funext b;unfold upd;split<;>rfl
theorem aE{H:Hp}{a b:Addr}{o:HO}(h:H a=some o)(h':H b=none):a≠b:=by
 intro e;subst e;rw[h]at h';cases h'
def dI4(h:Heap)(a:Addr):Prop:=∃ o,h.get? a=some o/\o.dict=none
section
variable(P:Program)(w:World)
def dM(H:Hp)(h:Heap)(a:Addr):HO->Prop
 | .lst xs=>xs.length<=sizeLine/\∃ (its:List Value) (n:Nat),cF xs its/\h.get? a=some {cls:=.type "list",data:=.seq its.toArray n}
 | .tup xs=>xs.length<=sizeLine/\∃ its:List Value,cF xs its/\IsTup h a its.toArray/\dI4 h a
 | .dK kvs=>kvs.length<=sizeLine/\(a==sysModules)=false/\∃ vs,KV kvs vs/\h.DictOf (aR0 P w) a vs
 | .dT kvs=>kvs.length<=sizeLine/\(a==sysModules)=false/\∃ xs:List (List Key×Addr×Value),
   Paired (fun(p:List Key×V) (q:List Key×Addr×Value)=>p.1=q.1/\H q.2.1=some (.tup (p.1.map kV))/\eG p.2 q.2.2) kvs xs /\
   ∃ o es ep,h.get? a=some o/\o.ExactDict/\o.data=.dict es ep/\es.toList=xs.map (entryOfKey (tupleKind (aR0 P w)))/\(xs.map (·.1)).Nodup
 | .set S n=>h.SetOf (intKind P w) a S n
 | .ins C dx fs=>H dx=some (.own a)/\fs.length<=1000/\dx≠a/\h.get? a=some (PySem.W.instObj C dx) /\
   ∃ mA,h.Ns1 dx mA/\(∀ f,dE0 (fs.lookup f) (mA f))/\PySem.Within mA (fs.map (·.1))
 | .own _=>∃ o,h.get? a=some o
 | .xd fs=>∃ mA,h.Ns1 a mA/\∀ f,dE0 (fs.lookup f) (mA f)
 | .rng lo hi=>∃ t u v,h.get? a=some {cls:=.type "range",data:=.fields #[.int lo t,.int hi u,.int 1 v]}
 | .frz o u=>h.get? a=some o/\dM H h a u
 | .tbl ps=>h.get? a=some {cls:=.none,data:=.fields ps}
 | .met f x=>h.get? a=some (PySem.W.methodObj (.ref f) (.ref x))
 | .ext φ=>φ h/\(∃ o,h.get? a=some o)/\∀ h1 h2:Heap,φ h1->(∀ o,h1.get? a=some o->h2.get? a=some o)->φ h2
def HOk(H:Hp)(h:Heap):Prop:=∀ a o,H a=some o->dM P w H h a o
end
section
variable{P:Program}{w:World}{H H':Hp}{h h':Heap}{a:Addr}{o:HO}
theorem dM.lt(x:dM P w H h a o):a < h.objs.size:=by
 cases o with
 | lst xs=>obtain⟨_,_,_,_,e⟩:=x;exact Heap.lt_size e
 | tup xs=>obtain⟨_,_,_,p,_⟩:=x;exact p.lt
 | dK kvs=>obtain⟨_,_,_,_,o,_,_,e,_⟩:=x;exact Heap.lt_size e
 | dT kvs=>obtain⟨_,_,_,_,o,_,_,e,_⟩:=x;exact Heap.lt_size e
 | set S n=>obtain⟨o,_,_,_,e,_⟩:=x;exact Heap.lt_size e
 | ins C dx fs=>obtain⟨_,_,_,e,_⟩:=x;exact Heap.lt_size e
 | own y=>obtain⟨_,e⟩:=x;exact Heap.lt_size e
 | xd fs=>obtain⟨_,⟨_,_,_,e,_⟩,_⟩:=x;exact Heap.lt_size e
 | rng lo hi=>obtain⟨_,_,_,e⟩:=x;exact Heap.lt_size e
 | frz ob u=>obtain⟨e,_⟩:=x;exact Heap.lt_size e
 | tbl ps=>exact Heap.lt_size (show h.get? a=some _ from x)
 | met f y=>exact Heap.lt_size (show h.get? a=some _ from x)
 | ext φ=>obtain⟨_,⟨_,e⟩,_⟩:=x;exact Heap.lt_size e
theorem Paired.mapP{α β:Type}{F G:α->β->Prop}:∀ {l₁:List α} {l₂:List β},Paired F l₁ l₂->(∀ a b,F a b->G a b)->Paired G l₁ l₂
 | _,_,.nil,_=>.nil
 | _,_,.cons r t,f=>.cons (f _ _ r) (Paired.mapP t f)
theorem dM.stay(x:dM P w H h a o)(k:∀ b u,(b=a\/H b=some (.own a))->h.get? b=some u->h'.get? b=some u)
  (ho:∀ b,H b=some (.own a)->H' b=some (.own a)) (ht:∀ b xs,H b=some (.tup xs)->H' b=some (.tup xs)):dM P w H' h' a o:=by
 induction o with
 | lst xs=>obtain⟨z,its,n,r,e⟩:=x;exact⟨z,its,n,r,k _ _ (.inl rfl) e⟩
 | tup xs=>obtain⟨z,its,r,⟨ob,e,c⟩,⟨ob2,e2,c2⟩⟩:=x;exact⟨z,its,r,⟨ob,k _ _ (.inl rfl) e,c⟩,⟨ob2,k _ _ (.inl rfl) e2,c2⟩⟩
 | dK kvs=>obtain⟨z,y,vs,r,ob,es,ep,e,c⟩:=x;exact⟨z,y,vs,r,ob,es,ep,k _ _ (.inl rfl) e,c⟩
 | dT kvs=>
   obtain⟨z,y,xs,r,ob,es,ep,e,c⟩:=x
   exact⟨z,y,xs,Paired.mapP r fun p q z=>⟨z.1,ht _ _ z.2.1,z.2.2⟩,ob,es,ep,k _ _ (.inl rfl) e,c⟩
 | set S n=>obtain⟨ob,es,ep,t,e,c⟩:=x;exact⟨ob,es,ep,t,k _ _ (.inl rfl) e,c⟩
 | ins C dx fs=>
   obtain⟨d,z,ne,e,mA,⟨od,es,ep,e2,c⟩,r⟩:=x
   exact⟨ho _ d,z,ne,k _ _ (.inl rfl) e,mA,⟨od,es,ep,k _ _ (.inr d) e2,c⟩,r⟩
 | own y=>obtain⟨ob,e⟩:=x;exact⟨ob,k _ _ (.inl rfl) e⟩
 | xd fs=>obtain⟨mA,⟨od,es,ep,e,c⟩,r⟩:=x;exact⟨mA,⟨od,es,ep,k _ _ (.inl rfl) e,c⟩,r⟩
 | rng lo hi=>obtain⟨t,u,v,e⟩:=x;exact⟨t,u,v,k _ _ (.inl rfl) e⟩
 | frz ob u ih=>obtain⟨e,q⟩:=x;exact⟨k _ _ (.inl rfl) e,ih q⟩
 | tbl ps=>
   have e:h.get? a=some {cls:=.none,data:=.fields ps}:=x
   show h'.get? a=some {cls:=.none,data:=.fields ps}
   exact k a _ (.inl rfl) e
 | met f y=>
   have e:h.get? a=some (PySem.W.methodObj (.ref f) (.ref y)):=x
   show h'.get? a=some (PySem.W.methodObj (.ref f) (.ref y))
   exact k a _ (.inl rfl) e
 | ext φ=>obtain⟨p,⟨o,e⟩,st⟩:=x;exact⟨st _ _ p fun o q=>k _ _ (.inl rfl) q,⟨o,k _ _ (.inl rfl) e⟩,st⟩
theorem HOk.lt(x:HOk P w H h)(e:H a=some o):a < h.objs.size:=(x a o e).lt
theorem HOk.fresh(x:HOk P w H h)(e:h.objs.size<=a):H a=none:=by
 cases q:H a with
 | none=>rfl
 | some u=>exact absurd (Nat.lt_of_lt_of_le (x.lt q) e) (Nat.lt_irrefl _)
theorem HOk.kept(x:HOk P w H h)(k:∀ b u,h.get? b=some u->h'.get? b=some u):HOk P w H h':=fun a o e=>
 (x a o e).stay (fun b u _ q=>k b u q) (fun _ q=>q) fun _ _ q=>q
theorem HOk.laid(x:HOk P w H h)(k:∀ b u,h.get? b=some u->h'.get? b=some u)(hp:h.objs.size<=a)(new:dM P w (upd H a o) h' a o):HOk P w (upd H a o) h':=fun b u e=>by
 have hn:=x.fresh hp
 by_cases hb:b=a
 ·subst hb;rw[aG]at e;cases e;exact new
 ·rw[aF hb]at e
  exact(x b u e).stay (fun c v _ q=>k c v q) (fun c q=>by rw[aF (aE q hn)];exact q) fun c xs q=>by rw[aF (aE q hn)];exact q
end
def Rd(H:Hp)(a:Addr)(u:HO):Prop:=H a=some u\/∃ o,H a=some (.frz o u)
theorem Rd.ok{P:Program}{w:World}{H:Hp}{h:Heap}{a:Addr}{u:HO}(r:Rd H a u)(x:HOk P w H h):dM P w H h a u:=by
 rcases r with r | ⟨o,r⟩
 ·exact x a u r
 ·obtain⟨_,q⟩:=x a _ r
  exact q
def Mut:Option HO->Prop
 | some (.lst _)=>True
 | some (.dK _)=>True
 | some (.dT _)=>True
 | some (.set _ _)=>True
 | some (.ins _ _ _)=>True
 | some (.ext _)=>True
 | _=>False
section
variable{P:Program}{w:World}{H:Hp}{h h':Heap}{x e:Addr}{o':HO}
theorem HOk.write(ok:HOk P w H h)(mu:Mut (H x))(he:e=x\/H e=some (.own x))(k:∀ b u,b≠e->h.get? b=some u->h'.get? b=some u)(heo:∃ u,h'.get? e=some u)
  (new:dM P w (upd H x o') h' x o'):HOk P w (upd H x o') h':=fun b u q=>by
 have nown:∀ c y,H c=some (.own y)->c≠x:=fun c y r z=>by subst z;rw[r]at mu;exact mu
 have ntup:∀ c xs,H c=some (.tup xs)->c≠x:=fun c xs r z=>by subst z;rw[r]at mu;exact mu
 by_cases hb:b=x
 ·subst hb;rw[aG]at q;cases q;exact new
 ·rw[aF hb]at q
  by_cases hbe:b=e
  ·have q':H b=some (.own x):=by
    rcases he with z | z
    ·exact absurd (hbe.trans z) hb
    ·rw[hbe];exact z
   rw[q]at q';cases q'
   obtain⟨v,hv⟩:=heo
   exact⟨v,by rw[hbe];exact hv⟩
  ·refine(ok b u q).stay (fun c v hc r=>k c v ?_ r) (fun c r=>by rw[aF (nown c b r)];exact r) fun c xs r=>by rw[aF (ntup c xs r)];exact r
   rcases hc with rfl | hc
   ·exact hbe
   ·rintro rfl
    rcases he with z | z
    ·exact nown c b hc z
    ·rw[hc]at z;cases z;exact hb rfl
end
structure Un(fs ex:List Addr)(H H':Hp)(h h':Heap):Prop where
 keep:∀ b o,h.get? b=some o->H b=none->b∉fs->b∉ex->h'.get? b=some o
 slot:∀ b o,h.get? b=some o->H b=none->b∈fs->b∉ex->∃ sl,h'.get? b=some {o with slots:=sl}
 free:∀ b o,h.get? b=some o->H b=none->b∉ex->H' b=none
 there:∀ b o,h.get? b=some o->b∉ex->∃ o',h'.get? b=some o'
 tups:∀ b xs,H b=some (.tup xs)->H' b=some (.tup xs)
 frzs:∀ b o u,H b=some (.frz o u)->H' b=some (.frz o u)
 tbls:∀ b ps,H b=some (.tbl ps)->∃ more,H' b=some (.tbl (ps++more))
section
variable{fs fs' ex ex':List Addr}{H H1 H2:Hp}{h h1 h2 h':Heap}{a x e:Addr}{o:HO}
theorem Un.any(u:Un fs ex H H1 h h1){b:Addr}{ob:Obj}(q:h.get? b=some ob)(n:H b=none)(hx:b∉ex):∃ sl,h1.get? b=some {ob with slots:=sl}:=by
 by_cases hb:b∈fs
 ·exact u.slot b ob q n hb hx
 ·exact⟨ob.slots,u.keep b ob q n hb hx⟩
theorem Un.kept(k:∀ b u,h.get? b=some u->h'.get? b=some u):Un fs ex H H h h':=
 ⟨fun b ob q _ _ _=>k b ob q,fun b ob q _ _ _=>⟨ob.slots,k b ob q⟩,fun _ _ _ n _=>n,fun b ob q _=>⟨ob,k b ob q⟩,fun _ _ q=>q,fun _ _ _ q=>q,fun _ ps q=>⟨#[],by rw[q];simp⟩⟩
theorem Un.refl:Un fs ex H H h h:=Un.kept fun _ _ q=>q
theorem Un.laid(k:∀ b u,h.get? b=some u->h'.get? b=some u)(hp:h.objs.size<=a)(hn:H a=none):Un fs ex H (upd H a o) h h' where
 keep:=fun b u q _ _ _=>k b u q
 slot:=fun b u q _ _ _=>⟨u.slots,k b u q⟩
 free:=fun b u q n _=>by rw[aF (Nat.ne_of_lt (Nat.lt_of_lt_of_le (Heap.lt_size q) hp))];exact n
 there:=fun b u q _=>⟨u,k b u q⟩
 tups:=fun b xs q=>by rw[aF (aE q hn)];exact q
 frzs:=fun b u xs q=>by rw[aF (aE q hn)];exact q
 tbls:=fun b ps q=>⟨#[],by rw[aF (aE q hn),q];simp⟩
theorem Un.write(mu:Mut (H x))(he:e=x\/H e=some (.own x))(k:∀ b u,b≠e->h.get? b=some u->h'.get? b=some u)(heo:∃ u,h'.get? e=some u):Un fs ex H (upd H x o) h h':=by
 have hx:∀ b,H b=none->b≠x:=fun b n z=>by subst z;rw[n]at mu;exact mu
 have hb:∀ b,H b=none->b≠e:=fun b n z=>by
  subst z
  rcases he with r | r
  ·exact hx b n r
  ·rw[n]at r;cases r
 have hm:∀ b u,H b=some u->¬ Mut (some u)->b≠x:=fun b u q nm z=>by subst z;rw[q]at mu;exact nm mu
 refine⟨fun b u q n _ _=>k b u (hb b n) q,fun b u q n _ _=>⟨u.slots,k b u (hb b n) q⟩,fun b u q n _=>by rw[aF (hx b n)];exact n,fun b u q _=>?_,
  fun b xs q=>by rw[aF (hm b _ q fun z=>z)];exact q,fun b u xs q=>by rw[aF (hm b _ q fun z=>z)];exact q,fun b ps q=>⟨#[],by rw[aF (hm b _ q fun z=>z),q];simp⟩⟩
 by_cases hbe:b=e
 ·subst hbe;exact heo
 ·exact⟨u,k b u hbe q⟩
end
def trk(h:Heap)(H:Hp):List Addr:=(List.range h.objs.size).filter fun a=>(H a).isSome
def bO5(h:Heap)(H:Hp):Heap:=PySem.W.hideAll h (trk h H)
theorem aR1(h:Heap)(H:Hp):(bO5 h H).objs.size=h.objs.size:=PySem.W.hideAll_size _ _
theorem bO6{h:Heap}{H:Hp}{b:Addr}{o:Obj}(e:h.get? b=some o)(n:H b=none):(bO5 h H).get? b=some o:=
 PySem.W.hideAll_get _ e fun hm=>by
  have q:(H b).isSome=true:=(List.mem_filter.mp hm).2
  rw[n]at q;simp at q
theorem cF0{h:Heap}{H:Hp}{b:Addr}{o:Obj}(e:(bO5 h H).get? b=some o):h.get? b=some o/\H b=none:=by
 have e':h.get? b=some o:=PySem.W.of_hideAll (trk h H) e
 refine⟨e',?_⟩
 cases q:H b with
 | none=>rfl
 | some x=>
   have hm:b∈trk h H:=List.mem_filter.mpr ⟨List.mem_range.mpr (Heap.lt_size e'),by simp[q]⟩
   have z:(bO5 h H).get? b=none:=PySem.W.hideAll_none (trk h H) hm
   rw[z]at e;cases e
def cF1(g h:Heap)(L:Addr):List (Addr×Obj):=(List.range h.objs.size).filterMap fun a=>if a=L\/(g.get? a).isSome=true then none else(h.get? a).map fun o=>(a,o)
def dI(g h:Heap)(L d:Addr):List (Addr×Obj):=(cF1 g h L).filter fun p=>decide (p.1≠d)
end L2
namespace L2
open PySem PySem.Spec PyProof.Rows
structure Mod(K:PySem.W.Frag)(mg:Str->Option Value)(base:Heap):Prop where
 kin:K.In base
 glob:base.Ns mainGlobals mg
 blt:∃ mb,base.Ns builtinsNs mb/\∀ x:Str,x≠"__name__"->mb x=bootBuiltins x
 nolimit:base.NoLimit
structure Cx where
 prog:Program
 w:World
 K:PySem.W.Frag
 mg:Str->Option Value
 base:Heap
 A:Around
 N:List Str
 s₀:Shared
 H₀:Hp
 env:Env
 outer:List Env
 stack:List Env
 ex:List Addr
 fn:Str->Bool
 calm:Bool
 pn:List (Addr×Obj)
 xe:Value->Shared->Prop
def frs(l:List Env):List Addr:=l.filterMap (·.frame)
abbrev Cx.fs(X:Cx):List Addr:=frs X.outer
def Vis(sc:Scope)(x:Str):Prop:=sc.names.lookup x=some .local\/sc.names.lookup x=some .cell\/sc.names.lookup x=some .free
def Loc(sc:Scope)(x:Str):Prop:=sc.names.lookup x=some .local\/sc.names.lookup x=some .cell
def dL3(env:Env)(h:Heap)(m:Str->Option Value)(x:Str)(u:Value):Prop:=
 (env.kindOf x=some .local/\m x=some u)\/((env.kindOf x=some .cell\/env.kindOf x=some .free)/\∃ c,env.cells.lookup x=some c/\h.IsCell c (some u))
structure Cx.Ok(X:Cx):Prop where
 mod:Mod X.K X.mg X.base
 kind:X.env.scope.kind=.function
 glob:X.env.globals=mainGlobals
 blt:X.env.builtins=builtinsNs
 above:X.s₀.heap.objs.size<=X.env.locals
 inj:∀ x y c,X.env.cells.lookup x=some c->X.env.cells.lookup y=some c->x=y
 has:∀ x,(X.env.kindOf x=some .cell\/X.env.kindOf x=some .free)->∃ c,X.env.cells.lookup x=some c
 cab:∀ x c,X.fn x=true->X.env.cells.lookup x=some c->X.s₀.heap.objs.size<=c
 hd:X.calm=true->X.A.handled=none
 frames:X.A.frames=some X.stack
 stk:X.stack=X.outer\/(X.stack=X.env::X.outer/\X.env.frame=some X.env.locals)
 exf:∀ b∈X.ex,b≠X.env.locals/\∀ x c,X.env.cells.lookup x=some c->c≠b
 bs:∀ b o,X.base.get? b=some o->X.s₀.heap.get? b=some o/\X.H₀ b=none
 bsz:X.base.objs.size<=X.s₀.heap.objs.size
 noex:∀ b o,X.base.get? b=some o->b∉X.ex
 exfs:∀ b∈X.ex,b∉X.fs
 funs:X.s₀.heap.FunFrames X.base X.outer
 frf:∀ b∈X.fs,X.H₀ b=none
structure Inv(X:Cx)(pins:List (Addr×Obj))(σ:List (Option V))(H:Hp)(s:Shared):Prop where
 ok:X.Ok
 os:s.os=X.s₀.os
 bare:AllBare s.gens
 base:Un X.fs X.ex X.H₀ H X.s₀.heap s.heap
 loc:∃ m,s.heap.Ns X.env.locals m/\∀ (i:Nat) (x:Str) (v:V),X.N[i]? = some x->σ[i]? = some (some v)->Vis X.env.scope x->∃ u,eG v u/\dL3 X.env s.heap m x u
 cell:∀ x c,X.env.cells.lookup x=some c->∃ v,s.heap.IsCell c v
 free:H X.env.locals=none
 freeC:∀ x c,X.env.cells.lookup x=some c->H c=none
 pin:∀ p∈X.pn++pins,s.heap.get? p.1=some p.2/\H p.1=none/\p.1≠X.env.locals/\p.1∉X.fs/\∀ v,p.2.data≠.cell v
 hok:HOk X.prog X.w H s.heap
 len:σ.length=X.N.length
section
variable{X:Cx}{pins:List (Addr×Obj)}{σ:List (Option V)}{H H':Hp}{s:Shared}{h':Heap}
theorem Cx.Ok.nofr(ok:X.Ok){b:Addr}{o:Obj}(e:X.base.get? b=some o):b∉X.fs:=fun hb=>by
 have:=(ok.funs.mem hb).1
 rw[e]at this;cases this
theorem Inv.bs(I:Inv X pins σ H s):∀ b o,X.base.get? b=some o->s.heap.get? b=some o/\H b=none:=fun b o e=>
 ⟨I.base.keep b o (I.ok.bs b o e).1 (I.ok.bs b o e).2 (I.ok.nofr e) (I.ok.noex b o e),I.base.free b o (I.ok.bs b o e).1 (I.ok.bs b o e).2 (I.ok.noex b o e)⟩
theorem Inv.bk(I:Inv X pins σ H s):∀ b o,X.base.get? b=some o->s.heap.get? b=some o:=fun b o e=>(I.bs b o e).1
theorem Inv.mod(I:Inv X pins σ H s):Mod X.K X.mg X.base:=I.ok.mod
theorem Inv.kIn(I:Inv X pins σ H s):X.K.In s.heap:=I.ok.mod.kin.keeps I.bk
theorem Inv.lt(I:Inv X pins σ H s):X.env.locals < s.heap.objs.size:=let ⟨_,hn,_⟩:=I.loc;hn.lt
theorem Inv.sz(I:Inv X pins σ H s):X.s₀.heap.objs.size<=s.heap.objs.size:=Nat.le_trans I.ok.above (Nat.le_of_lt I.lt)
theorem Inv.nofs(I:Inv X pins σ H s){a:Addr}(h:s.heap.objs.size<=a):a∉X.fs:=fun hb=>by
 obtain⟨_,o,ho,_⟩:=I.ok.funs.mem hb
 exact absurd (Nat.lt_of_lt_of_le (Heap.lt_size ho) (Nat.le_trans I.sz h)) (Nat.lt_irrefl _)
theorem Inv.cne(I:Inv X pins σ H s):∀ x c,X.env.cells.lookup x=some c->c≠X.env.locals:=fun x c e z=>by
 obtain⟨v,o,ho,hd⟩:=I.cell x c e
 obtain⟨m,⟨o',es,ep,ho',hd',_⟩,_⟩:=I.loc
 rw[z,ho']at ho;cases ho;rw[hd']at hd;cases hd
theorem Inv.funs(I:Inv X pins σ H s):s.heap.FunFrames X.base X.outer:=by
 have all:∀ (l:List Env),(∀ b∈frs l,b∈X.fs)->X.s₀.heap.FunFrames X.base l->s.heap.FunFrames X.base l:=by
  intro l
  induction l with
  | nil=>intro _ _;trivial
  | cons env r ih=>
    intro hs hl
    obtain⟨hk,⟨L,o,hf,hn,ho,hd⟩,hr⟩:=hl
    have hL:L∈X.fs:=hs L (by unfold frs;rw[List.filterMap_cons,hf];exact List.mem_cons_self)
    obtain⟨sl,e⟩:=I.base.slot L o ho (I.ok.frf L hL) hL fun z=>I.ok.exfs L z hL
    exact⟨hk,⟨L,_,hf,hn,e,hd⟩,ih (fun b hb=>hs b (by unfold frs;rw[List.filterMap_cons,hf];exact List.mem_cons_of_mem _ hb)) hr⟩
 exact all X.outer (fun _ hb=>hb) I.ok.funs
theorem Inv.stack(I:Inv X pins σ H s):s.heap.FunFrames X.base X.stack:=by
 rcases I.ok.stk with e | ⟨e,hf⟩
 ·rw[e];exact I.funs
 ·rw[e]
  obtain⟨m,hn,_⟩:=I.loc
  refine .cons (by rw[I.ok.kind];decide) hf hn ?_ I.funs
  exact Heap.get?_none_of_le (Nat.le_trans I.ok.bsz I.ok.above)
theorem Inv.stkSub(I:Inv X pins σ H s):∀ b∈frs X.stack,b∈X.env.locals::X.fs:=fun b hb=>by
 rcases I.ok.stk with e | ⟨e,hf⟩
 ·rw[e]at hb;exact List.mem_cons_of_mem _ hb
 ·rw[e]at hb
  unfold frs at hb
  rw[List.filterMap_cons,hf]at hb
  exact hb
theorem Inv.stkFree(I:Inv X pins σ H s):∀ b∈frs X.stack,H b=none:=fun b hb=>by
 rcases List.mem_cons.mp (I.stkSub b hb)with e | hb
 ·rw[e];exact I.free
 ·obtain⟨_,o,ho,_⟩:=I.ok.funs.mem hb
  exact I.base.free b o ho (I.ok.frf b hb) fun z=>I.ok.exfs b z hb
theorem Inv.step{g':Array GenState}{t':Nat}{d':Drawn}{ch:List Addr}(I:Inv X pins σ H s)
  (hch:∀ b∈ch,(b∈X.ex\/X.s₀.heap.objs.size<=b)/\b≠X.env.locals/\(∀ x c,X.env.cells.lookup x=some c->c≠b)/\∀ p∈X.pn++pins,p.1≠b)
  (keep:∀ b o,b≠X.env.locals->b∉X.fs->b∉ch->s.heap.get? b=some o->H b=none->h'.get? b=some o)
  (slot:∀ b o,b≠X.env.locals->b∈X.fs->b∉ch->s.heap.get? b=some o->H b=none->∃ sl,h'.get? b=some {o with slots:=sl}) (free:∀ b o,b∉ch->s.heap.get? b=some o->H b=none->H' b=none)
  (there:∀ b o,b∉ch->s.heap.get? b=some o->∃ o',h'.get? b=some o')
  (tups:∀ b xs,H b=some (.tup xs)->H' b=some (.tup xs)) (frzs:∀ b o u,H b=some (.frz o u)->H' b=some (.frz o u)) (tbls:∀ b ps,H b=some (.tbl ps)->∃ more,H' b=some (.tbl (ps++more)))
  (ns:∀ m,s.heap.Ns X.env.locals m->h'.Ns X.env.locals m) (hok:HOk X.prog X.w H' h') (hg:AllBare g') :
  Inv X pins σ H' {s with heap:=h',gens:=g',drawn:=d',toks:=t'}:=by
 have neL:∀ b o,X.s₀.heap.get? b=some o->b≠X.env.locals:=fun b o e=>Nat.ne_of_lt (Nat.lt_of_lt_of_le (Heap.lt_size e) I.ok.above)
 have neC:∀ b o,X.s₀.heap.get? b=some o->b∉X.ex->b∉ch:=fun b o e hx hb=>by
  rcases(hch b hb).1 with z | z
  ·exact hx z
  ·exact absurd (Nat.lt_of_lt_of_le (Heap.lt_size e) z) (Nat.lt_irrefl _)
 have cellK:∀ x c,X.env.cells.lookup x=some c->∀ v,s.heap.IsCell c v->h'.IsCell c v:=fun x c e v ⟨o,ho,hd⟩=>by
  have nch:c∉ch:=fun z=>(hch c z).2.2.1 x c e rfl
  by_cases hc:c∈X.fs
  ·obtain⟨sl,q⟩:=slot c o (I.cne x c e) hc nch ho (I.freeC x c e)
   exact⟨_,q,hd⟩
  ·exact⟨o,keep c o (I.cne x c e) hc nch ho (I.freeC x c e),hd⟩
 refine⟨I.ok,I.os,hg,⟨fun b o e n hb hx=>?_,fun b o e n hb hx=>?_,fun b o e n hx=>?_,fun b o e hx=>?_,fun b xs e=>tups b xs (I.base.tups b xs e),fun b o xs e=>frzs b o xs (I.base.frzs b o xs e),fun b ps e=>?_⟩,?_,fun x c e=>?_,?_,fun x c e=>?_,fun p hp=>?_,hok,I.len⟩
 ·exact keep b o (neL b o e) hb (neC b o e hx) (I.base.keep b o e n hb hx) (I.base.free b o e n hx)
 ·obtain⟨sl,e1⟩:=I.base.slot b o e n hb hx
  obtain⟨sl',e2⟩:=slot b _ (neL b o e) hb (neC b o e hx) e1 (I.base.free b o e n hx)
  exact⟨sl',e2⟩
 ·obtain⟨o',e1⟩:=I.base.there b o e hx
  exact free b o' (neC b o e hx) e1 (I.base.free b o e n hx)
 ·obtain⟨o',e1⟩:=I.base.there b o e hx
  exact there b o' (neC b o e hx) e1
 ·obtain⟨m1,e1⟩:=I.base.tbls b ps e
  obtain⟨m2,e2⟩:=tbls b _ e1
  exact⟨m1++m2,by rw[e2,Array.append_assoc]⟩
 ·obtain⟨m,hn,hl⟩:=I.loc
  refine⟨m,ns m hn,fun i x v e1 e2 e3=>?_⟩
  obtain⟨u,r,l⟩:=hl i x v e1 e2 e3
  refine⟨u,r,?_⟩
  rcases l with l | ⟨k,c,e,z⟩
  ·exact .inl l
  ·exact .inr ⟨k,c,e,cellK x c e _ z⟩
 ·obtain⟨v,z⟩:=I.cell x c e
  exact⟨v,cellK x c e v z⟩
 ·obtain⟨m,⟨o,_,_,ho,_⟩,_⟩:=I.loc
  exact free _ o (fun z=>(hch _ z).2.1 rfl) ho I.free
 ·obtain⟨v,o,ho,hd⟩:=I.cell x c e
  exact free c o (fun z=>(hch c z).2.2.1 x c e rfl) ho (I.freeC x c e)
 ·obtain⟨e,n,ne,nf,d⟩:=I.pin p hp
  have nch:p.1∉ch:=fun z=>(hch p.1 z).2.2.2 p hp rfl
  exact⟨keep p.1 p.2 ne nf nch e n,free p.1 p.2 nch e n,ne,nf,d⟩
theorem Inv.un{t':Nat}(I:Inv X pins σ H s)(u:Un X.fs [] H H' s.heap h')(hok:HOk X.prog X.w H' h'):Inv X pins σ H' {s with heap:=h',toks:=t'}:=by
 obtain⟨m,⟨o,es,ep,ho,r⟩,_⟩:=id I.loc
 obtain⟨sl,hL⟩:=u.any ho I.free (by simp)
 exact I.step (g':=s.gens) (d':=s.drawn) (ch:=[]) (fun _ z=>nomatch z) (fun b o _ hb _ e n=>u.keep b o e n hb (by simp)) (fun b o _ hb _ e n=>u.slot b o e n hb (by simp)) (fun b o _ e n=>u.free b o e n (by simp)) (fun b o _ e=>u.there b o e (by simp)) u.tups u.frzs u.tbls (fun m' hm=>by
  obtain⟨o',es',ep',ho',r'⟩:=hm
  rw[ho]at ho';cases ho'
  exact⟨_,es',ep',hL,r'⟩) hok I.bare
theorem Inv.call{g':Array GenState}{t':Nat}{d':Drawn}{ch:List Addr}(I:Inv X pins σ H s)(u:Un (frs X.stack) ch H H' s.heap h')(hok:HOk X.prog X.w H' h')(hg:AllBare g')
  (hch:∀ b∈ch,(b∈X.ex\/X.s₀.heap.objs.size<=b)/\b≠X.env.locals/\(∀ x c,X.env.cells.lookup x=some c->c≠b)/\∀ p∈X.pn++pins,p.1≠b) :
  Inv X pins σ H' {s with heap:=h',gens:=g',drawn:=d',toks:=t'}:=by
 obtain⟨m,⟨o,es,ep,ho,r⟩,_⟩:=id I.loc
 obtain⟨sl,hL⟩:=u.any ho I.free fun z=>(hch _ z).2.1 rfl
 exact I.step (ch:=ch) hch (fun b o hL hb hc e n=>u.keep b o e n (fun z=>(List.mem_cons.mp (I.stkSub b z)).elim hL hb) hc) (fun b o _ _ hc e n=>u.any e n hc) (fun b o hc e n=>u.free b o e n hc) (fun b o hc e=>u.there b o e hc) u.tups u.frzs u.tbls (fun m' hm=>by
  obtain⟨o',es',ep',ho',r'⟩:=hm
  rw[ho]at ho';cases ho'
  exact⟨_,es',ep',hL,r'⟩) hok hg
theorem Inv.turned{t':Nat}{it:Addr}(I:Inv X pins σ H s)(k:∀ b o,b≠it->s.heap.get? b=some o->h'.get? b=some o)(hn:H it=none)(hL:it≠X.env.locals)
  (h1:it∈X.ex\/X.s₀.heap.objs.size<=it) (h2:∀ x c,X.env.cells.lookup x=some c->c≠it) (h3:∀ p∈X.pn++pins,p.1≠it):Inv X pins σ H {s with heap:=h',toks:=t'}:=by
 have nit:∀ b u,H b=some u->b≠it:=fun b u e z=>by rw[z,hn]at e;cases e
 refine I.step (g':=s.gens) (d':=s.drawn) (ch:=[it]) (fun b hb=>?_) (fun b o _ _ hc e _=>k b o (fun z=>hc (by simp[z])) e) (fun b o _ _ hc e _=>⟨o.slots,k b o (fun z=>hc (by simp[z])) e⟩) (fun _ _ _ _ n=>n)
  (fun b o hc e=>⟨o,k b o (fun z=>hc (by simp[z])) e⟩) (fun _ _ e=>e) (fun _ _ _ e=>e) (fun b ps e=>⟨#[],by rw[e];simp⟩) (fun m hm=>?_) (fun b u e=>?_) I.bare
 ·have e:b=it:=by simpa using hb
  subst e
  exact⟨h1,hL,h2,h3⟩
 ·obtain⟨o,es,ep,ho,r⟩:=hm
  exact⟨o,es,ep,k _ o (Ne.symm hL) ho,r⟩
 ·refine(I.hok b u e).stay (fun c v hc q=>k c v ?_ q) (fun _ q=>q) fun _ _ q=>q
  rcases hc with z | z
  ·rw[z];exact nit b u e
  ·exact nit c _ z
theorem Inv.tok(I:Inv X pins σ H s)(t:Nat):Inv X pins σ H {s with toks:=t}:=I.un (h':=s.heap) (t':=t) Un.refl I.hok
theorem Inv.kept{t':Nat}(I:Inv X pins σ H s)(k:∀ b u,s.heap.get? b=some u->h'.get? b=some u):Inv X pins σ H {s with heap:=h',toks:=t'}:=I.un (Un.kept k) (I.hok.kept k)
theorem Inv.laid{a:Addr}{o:HO}{t':Nat}(I:Inv X pins σ H s)(k:∀ b u,s.heap.get? b=some u->h'.get? b=some u)(hp:s.heap.objs.size<=a)(new:dM X.prog X.w (upd H a o) h' a o) :
  Inv X pins σ (upd H a o) {s with heap:=h',toks:=t'}:=I.un (Un.laid k hp (I.hok.fresh hp)) (I.hok.laid k hp new)
theorem Inv.write{x e:Addr}{o:HO}{t':Nat}(I:Inv X pins σ H s)(mu:Mut (H x))(he:e=x\/H e=some (.own x))(k:∀ b u,b≠e->s.heap.get? b=some u->h'.get? b=some u)(heo:∃ u,h'.get? e=some u)
  (new:dM X.prog X.w (upd H x o) h' x o):Inv X pins σ (upd H x o) {s with heap:=h',toks:=t'}:=I.un (Un.write mu he k heo) (I.hok.write mu he k heo new)
theorem Inv.weak{σ':List (Option V)}(I:Inv X pins σ H s)(hl:σ'.length=σ.length)(w:∀ (i:Nat) v,σ'[i]? = some (some v)->σ[i]? = some (some v)):Inv X pins σ' H s:=
 ⟨I.ok,I.os,I.bare,I.base,let ⟨m,hn,hl'⟩:=I.loc;⟨m,hn,fun i x v e1 e2 e3=>hl' i x v e1 (w i v e2) e3⟩,I.cell,I.free,I.freeC,I.pin,I.hok,hl.trans I.len⟩
theorem Inv.pins_of{pins':List (Addr×Obj)}(I:Inv X pins σ H s)(h:∀ p∈pins',s.heap.get? p.1=some p.2/\H p.1=none/\p.1≠X.env.locals/\p.1∉X.fs/\∀ v,p.2.data≠.cell v):Inv X pins' σ H s:=
 ⟨I.ok,I.os,I.bare,I.base,I.loc,I.cell,I.free,I.freeC,fun p hp=>(List.mem_append.mp hp).elim (fun z=>I.pin p (List.mem_append_left _ z)) (h p),I.hok,I.len⟩
theorem uE{N:List Str}(hN:N.Nodup){i j:Nat}{x:Str}(a:N[i]? = some x)(b:N[j]? = some x):i=j:=by
 obtain⟨h1,e1⟩:=List.getElem?_eq_some_iff.mp a
 obtain⟨h2,e2⟩:=List.getElem?_eq_some_iff.mp b
 exact(List.getElem_inj hN).mp (e1.trans e2.symm)
theorem xF{M:Model}{A:Around}{E:Value->Shared->Prop}{i:Nat}{x:Str}{v:V}{u:Value}{Q:Unit->Shared->Prop}(I:Inv X pins σ H s)(hN:X.N.Nodup)(hi:X.N[i]? = some x)(hx:Loc X.env.scope x)(r:eG v u)
  (h:∀ s',Inv X pins (σ.set i (some v)) H s'->(∃ a,Heap.SameBut a s.heap s'.heap/\(a=X.env.locals\/X.env.cells.lookup x=some a))->Q () s') (hf:X.fn x=true\/X.env.scope.names.lookup x=some .local:=by first | exact .inl rfl | exact .inr rfl | assumption):wpAny M A (storeName X.env x u) Q E s:=by
 obtain⟨m,hn,hl⟩:=id I.loc
 have hcls:(X.env.scope.kind==.class||(X.env.scope.kind==.module&&X.env.locals != X.env.globals))=false:=by rw[I.ok.kind];rfl
 have hiσ:i < σ.length:=by rw[I.len];exact(List.getElem?_eq_some_iff.mp hi).1
 have cne:=I.cne
 have tracked:∀ {a:Addr} {h':Heap},(∃ o,s.heap.get? a=some o/\H a=none)->Heap.SameBut a s.heap h'->HOk X.prog X.w H h':=fun{a h'} ha hs b ob e=>by
  obtain⟨_,_,hfree⟩:=ha
  refine(I.hok b ob e).stay (fun c w' hc q=>(hs.2 c ?_).trans q) (fun _ q=>q) fun _ _ q=>q
  rintro rfl
  rcases hc with rfl | hc
  ·rw[hfree]at e;cases e
  ·rw[hfree]at hc;cases hc
 rcases hx with hk | hk
 ·refine wpAny_storeName_local hk hn (fun h' hn' hs=>?_) hcls
  obtain⟨oL,_,_,hoL,_⟩:=id hn
  refine h _ ⟨I.ok,I.os,I.bare,⟨fun b o e n hb hx=>?_,fun b o e n hb hx=>?_,I.base.free,fun b o e hx=>?_,I.base.tups,I.base.frzs,I.base.tbls⟩,⟨_,hn',fun j y v' e1 e2 e3=>?_⟩,fun y c e=>?_,I.free,I.freeC,fun p hp=>?_,tracked ⟨oL,hoL,I.free⟩ hs,by simpa using I.len⟩ ⟨_,hs,.inl rfl⟩
  ·exact(hs.2 b (Nat.ne_of_lt (Nat.lt_of_lt_of_le (Heap.lt_size e) I.ok.above))).trans (I.base.keep b o e n hb hx)
  ·obtain⟨sl,e1⟩:=I.base.slot b o e n hb hx
   exact⟨sl,(hs.2 b (Nat.ne_of_lt (Nat.lt_of_lt_of_le (Heap.lt_size e) I.ok.above))).trans e1⟩
  ·obtain⟨o',e1⟩:=I.base.there b o e hx
   exact⟨o',(hs.2 b (Nat.ne_of_lt (Nat.lt_of_lt_of_le (Heap.lt_size e) I.ok.above))).trans e1⟩
  ·by_cases hj:j=i
   ·subst hj
    rw[hi]at e1;cases e1
    rw[List.getElem?_set_self hiσ]at e2
    cases e2
    exact⟨u,r,.inl ⟨hk,by simp⟩⟩
   ·rw[List.getElem?_set_ne (Ne.symm hj)]at e2
    obtain⟨u',r',q⟩:=hl j y v' e1 e2 e3
    refine⟨u',r',?_⟩
    rcases q with⟨k,e⟩ | ⟨k,c,e,z⟩
    ·refine .inl ⟨k,?_⟩
     have:y≠x:=fun e=>hj (uE hN e1 (e ▸ hi))
     simp[this,e]
    ·exact .inr ⟨k,c,e,z.sameBut hs (cne y c e)⟩
  ·obtain⟨w',z⟩:=I.cell y c e
   exact⟨w',z.sameBut hs (cne y c e)⟩
  ·obtain⟨e,n,ne,nf,d⟩:=I.pin p hp
   exact⟨(hs.2 p.1 ne).trans e,n,ne,nf,d⟩
 ·have hfn:X.fn x=true:=by
   rcases hf with z | z
   ·exact z
   ·rw[z]at hk;cases hk
  obtain⟨c,hc⟩:=I.ok.has x (.inl hk)
  obtain⟨w',z⟩:=I.cell x c hc
  refine wpAny_storeName_cell I.ok.kind hk hc z (fun h' hc' hs=>?_)
  obtain⟨oc,hoc,hocd⟩:=id z
  refine h {s with heap:=h'} ⟨I.ok,I.os,I.bare,⟨fun b o e n hb hx=>?_,fun b o e n hb hx=>?_,I.base.free,fun b o e hx=>?_,I.base.tups,I.base.frzs,I.base.tbls⟩,⟨m,hn.sameBut hs (Ne.symm (cne x c hc)),fun j y v' e1 e2 e3=>?_⟩,fun y c' e=>?_,I.free,I.freeC,fun p hp=>?_,tracked ⟨oc,hoc,I.freeC x c hc⟩ hs,by simpa using I.len⟩ ⟨c,hs,.inr hc⟩
  ·exact(hs.2 b (Nat.ne_of_lt (Nat.lt_of_lt_of_le (Heap.lt_size e) (I.ok.cab x c hfn hc)))).trans (I.base.keep b o e n hb hx)
  ·obtain⟨sl,e1⟩:=I.base.slot b o e n hb hx
   exact⟨sl,(hs.2 b (Nat.ne_of_lt (Nat.lt_of_lt_of_le (Heap.lt_size e) (I.ok.cab x c hfn hc)))).trans e1⟩
  ·obtain⟨o',e1⟩:=I.base.there b o e hx
   exact⟨o',(hs.2 b (Nat.ne_of_lt (Nat.lt_of_lt_of_le (Heap.lt_size e) (I.ok.cab x c hfn hc)))).trans e1⟩
  ·by_cases hj:j=i
   ·subst hj
    rw[hi]at e1;cases e1
    rw[List.getElem?_set_self hiσ]at e2
    cases e2
    exact⟨u,r,.inr ⟨.inl hk,c,hc,hc'⟩⟩
   ·rw[List.getElem?_set_ne (Ne.symm hj)]at e2
    obtain⟨u',r',q⟩:=hl j y v' e1 e2 e3
    refine⟨u',r',?_⟩
    rcases q with q | ⟨k,c',e,z'⟩
    ·exact .inl q
    ·refine .inr ⟨k,c',e,z'.sameBut hs ?_⟩
     rintro rfl
     exact hj (uE hN e1 (I.ok.inj _ _ _ e hc ▸ hi))
  ·by_cases hcc:c'=c
   ·subst hcc;exact⟨_,hc'⟩
   ·obtain⟨w2,z2⟩:=I.cell y c' e
    exact⟨w2,z2.sameBut hs hcc⟩
  ·obtain⟨e,n,ne,nf,d⟩:=I.pin p hp
   refine⟨(hs.2 p.1 ?_).trans e,n,ne,nf,d⟩
   intro q
   rw[q,hoc]at e
   have q':oc=p.2:=Option.some.inj e
   exact d w' (by rw[← q'];exact hocd)
theorem mE{M:Model}{A:Around}{E:Value->Shared->Prop}{i:Nat}{x:Str}{v:V}{u:Value}{Q:Unit->Shared->Prop}(I:Inv X pins σ H s)(hN:X.N.Nodup)(hi:X.N[i]? = some x)(hx:Loc X.env.scope x)(r:eG v u)
  (h:∀ s',Inv X pins (σ.set i (some v)) H s'->Q () s') (hf:X.fn x=true\/X.env.scope.names.lookup x=some .local:=by first | exact .inl rfl | exact .inr rfl | assumption):wpAny M A (storeName X.env x u) Q E s:=
 xF I hN hi hx r (fun s' I' _=>h s' I') hf
theorem Inv.call'{s':Shared}{ch:List Addr}(I:Inv X pins σ H s)(ho:s'.os=s.os)(u:Un (frs X.stack) ch H H' s.heap s'.heap)(hok:HOk X.prog X.w H' s'.heap)(hg:AllBare s'.gens)
  (hch:∀ b∈ch,(b∈X.ex\/X.s₀.heap.objs.size<=b)/\b≠X.env.locals/\(∀ x c,X.env.cells.lookup x=some c->c≠b)/\∀ p∈X.pn++pins,p.1≠b):Inv X pins σ H' s':=by
 obtain⟨h',g',d',t',o'⟩:=s'
 have e:o'=s.os:=ho
 subst e
 exact I.call (g':=g') (t':=t') (d':=d') u hok hg hch
end
abbrev XK:=Value->Option Addr->Hp->Prop
abbrev St:=List (Option V)
abbrev VK:=V->Hp->Prop
abbrev TE:=St->Hp->VK->Prop
abbrev TT:=St->Hp->(Bool->Hp->Prop)->Prop
abbrev TA:=St->Hp->(List V->Hp->Prop)->Prop
structure Ends where
 nx:St->Hp->Prop
 rt:VK
 bk:St->Hp->Prop:=fun _ _=>False
 ct:St->Hp->Prop:=fun _ _=>False
abbrev TS:=Ends->St->Hp->Prop
def EP(X:Cx)(pins:List (Addr×Obj))(σ:St)(Q:VK)(u:Value)(s':Shared):Prop:=∃ v H',Inv X pins σ H' s'/\eG v u/\Q v H'
def TP(X:Cx)(pins:List (Addr×Obj))(σ:St)(Q:Bool->Hp->Prop)(b:Bool)(s':Shared):Prop:=∃ H',Inv X pins σ H' s'/\Q b H'
def AP(X:Cx)(pins:List (Addr×Obj))(σ:St)(Q:List V->Hp->Prop)(us:List Value)(s':Shared):Prop:=∃ vs H',Inv X pins σ H' s'/\cF vs us/\Q vs H'
def SP(X:Cx)(pins:List (Addr×Obj))(D:Ends)(f:Flow)(s':Shared):Prop:=
 match f with
 | .next=>∃ σ' H',Inv X pins σ' H' s'/\D.nx σ' H'
 | .brk=>∃ σ' H',Inv X pins σ' H' s'/\D.bk σ' H'
 | .cont=>∃ σ' H',Inv X pins σ' H' s'/\D.ct σ' H'
 | .ret u=>∃ v σ' H',Inv X pins σ' H' s'/\eG v u/\D.rt v H'
def PE(X:Cx)(e:Expr)(t:TE):Prop:=
 ∀ (pins:List (Addr×Obj)) (s:Shared) (σ:St) (H:Hp) (Q:VK),Inv X pins σ H s->t σ H Q->wpAny (model X.prog X.w) X.A (eval e X.env) (EP X pins σ Q) X.xe s
def PT(X:Cx)(e:Expr)(t:TT):Prop:=
 ∀ (pins:List (Addr×Obj)) (s:Shared) (σ:St) (H:Hp) (Q:Bool->Hp->Prop),Inv X pins σ H s->t σ H Q->wpAny (model X.prog X.w) X.A (isTrue e X.env (eval e X.env)) (TP X pins σ Q) X.xe s
def PW(X:Cx)(e:Expr)(t:TT):Prop:=
 ∀ (whole:Sem Value) (pins:List (Addr×Obj)) (s:Shared) (σ:St) (H:Hp) (Q:Bool->Hp->Prop),Inv X pins σ H s->t σ H Q->wpAny (model X.prog X.w) X.A (isTrue e X.env whole) (TP X pins σ Q) X.xe s
theorem PW.pt{X:Cx}{e:Expr}{t:TT}(h:PW X e t):PT X e t:=h _
def PA(X:Cx)(es:List Expr)(t:TA):Prop:=
 ∀ (pos:Pos) (pins:List (Addr×Obj)) (s:Shared) (σ:St) (H:Hp) (Q:List V->Hp->Prop),Inv X pins σ H s->t σ H Q->wpAny (model X.prog X.w) X.A (spliced (backTo pos (starEach es X.env))) (AP X pins σ Q) X.xe s
def PS(X:Cx)(st:Stmt)(t:TS):Prop:=
 ∀ (pins:List (Addr×Obj)) (s:Shared) (σ:St) (H:Hp) (D:Ends),Inv X pins σ H s->t D σ H->wpAny (model X.prog X.w) X.A (exec st X.env) (SP X pins D) X.xe s
def PSs(X:Cx)(st:List Stmt)(t:TS):Prop:=
 ∀ (pins:List (Addr×Obj)) (s:Shared) (σ:St) (H:Hp) (D:Ends),Inv X pins σ H s->t D σ H->wpAny (model X.prog X.w) X.A (execs st X.env) (SP X pins D) X.xe s
theorem thn{α:Type}{t:Sem α}{Q Q':α->Shared->Prop}{M:Model}{A:Around}{E:Value->Shared->Prop}{s:Shared}(h:wpAny M A t Q E s)(hQ:∀ a s,Q a s->Q' a s):wpAny M A t Q' E s:=wpAny_mono h hQ fun _ _ x=>x
end L2
namespace L2
open PySem PySem.Spec PyProof.Rows
section
variable{X:Cx}
def aG5(i:Nat):TE:=fun σ H Q=>∃ v,σ[i]? = some (some v)/\Q v H
def tC(v:V):TE:=fun _ H Q=>Q v H
theorem cR3{i:Nat}{x:Str}{pos:Pos}(hN:X.N[i]? = some x)(hv:Vis X.env.scope x)(hd:(x==("__debug__":Str))=false:=by decide)(hcd:(x==("__classdict__":Str))=false:=by decide):PE X (.Name x pos) (aG5 i):=by
 intro pins s σ H Q I h
 obtain⟨v,e,h⟩:=h
 obtain⟨m,hn,hl⟩:=I.loc
 obtain⟨u,r,l⟩:=hl i x v hN e hv
 have fin:EP X pins σ Q u s:=⟨v,H,I,r,h⟩
 rcases l with⟨hk,hm⟩ | ⟨hk,c,hc,hcell⟩
 ·exact wpAny_Name (wpAny_loadName_local I.ok.kind hk hn hm fin) hd
 ·rcases hk with hk | hk
  ·exact wpAny_Name (wpAny_loadName_cell I.ok.kind hk hc hcell fin) hd
  ·exact wpAny_Name (wpAny_loadName_free I.ok.kind hk hc hcell fin hcd) hd
theorem aV{i j pos}:PE X (.Constant (.int i) j pos) (tC (.int i)):=fun _ _ _ H _ I h=>wpAny_Constant_int ⟨.int i,H,I.tok _,⟨_,rfl⟩,h⟩
theorem dE1{b j pos}:PE X (.Constant (.bool b) j pos) (tC (.bl b)):=fun _ _ _ H _ I h=>Constant_bool ⟨.bl b,H,I,rfl,h⟩
theorem cR4{j pos}:PE X (.Constant .none j pos) (tC .non):=fun _ _ _ H _ I h=>Constant_none ⟨.non,H,I,rfl,h⟩
theorem aR2{x j pos}:PE X (.Constant (.str x) j pos) (tC (.str x)):=fun _ _ _ H _ I h=>Calls.Constant_str ⟨.str x,H,I.tok _,⟨_,rfl⟩,h⟩
def Gl(X:Cx)(x:Str):Prop:=X.env.kindOf x=some .globalImplicit
theorem qQ{E:Value->Shared->Prop}{pins:List (Addr×Obj)}{s:Shared}{σ:St}{H:Hp}{x:Str}{u:Value}{pos:Pos}{Q:Value->Shared->Prop}(I:Inv X pins σ H s)(hg:Gl X x)(hm:X.mg x=some u)(h:Q u s)
  (hd:(x==("__debug__":Str))=false:=by decide):wpAny (model X.prog X.w) X.A (eval (.Name x pos) X.env) Q E s:=
 Calls.Name_function_global I.ok.kind hg (Calls.loadGlobal_global (by rw[I.ok.glob];exact I.mod.glob.keeps I.bk) hm h) hd
theorem kZ{E:Value->Shared->Prop}{pins:List (Addr×Obj)}{s:Shared}{σ:St}{H:Hp}{x:Str}{u:Value}{pos:Pos}{Q:Value->Shared->Prop}(I:Inv X pins σ H s)(hg:Gl X x)(hm:X.mg x=none)(hv:bootBuiltins x=some u)(h:Q u s)
  (hn:x≠"__name__":=by decide) (hd:(x==("__debug__":Str))=false:=by decide):wpAny (model X.prog X.w) X.A (eval (.Name x pos) X.env) Q E s:=by
 obtain⟨mb,h1,h2⟩:=I.mod.blt
 exact Calls.Name_function_global I.ok.kind hg (Calls.loadGlobal_builtin (by rw[I.ok.glob];exact I.mod.glob.keeps I.bk) hm (by rw[I.ok.blt];exact h1.keeps I.bk) ((h2 x hn).trans hv) h) hd
theorem lJ{x:Str}{v:V}{u:Value}{pos:Pos}(hg:Gl X x)(hm:X.mg x=some u)(r:eG v u)(hd:(x==("__debug__":Str))=false:=by decide):PE X (.Name x pos) (tC v):=
 fun _ _ _ H _ I h=>qQ I hg hm ⟨v,H,I,r,h⟩ hd
theorem zK{x:Str}{v:V}{u:Value}{pos:Pos}(hg:Gl X x)(hm:X.mg x=none)(hv:bootBuiltins x=some u)(r:eG v u)(hn:x≠"__name__":=by decide)(hd:(x==("__debug__":Str))=false:=by decide):PE X (.Name x pos) (tC v):=
 fun _ _ _ H _ I h=>kZ I hg hm hv ⟨v,H,I,r,h⟩ hn hd
variable{a b:Expr}{ta tb:TE}{pos:Pos}
def tB(t:TE):TT:=fun σ H Q=>t σ H fun x H1=>∃ c,x=.bl c/\Q c H1
theorem cR5{e:Expr}{t:TE}(h:PE X e t)(he:∀ whole,isTrue e X.env whole=(do let v ← whole;standAt e.pos;holding [v] (truthy v)):=by intro _;rfl):PT X e (tB t):=by
 intro pins s σ H Q I hw
 refine isTrue_plain (thn (h pins s σ H _ I hw) fun v s1 ⟨x,H1,I1,r1,q1⟩=>?_) (he _)
 obtain⟨d,rfl,q⟩:=q1
 cases r1
 exact wpAny_truthy_bool ⟨H1,I1,q⟩
variable{tA tB':TT}{dI:List Expr}
def dI5(t u:TT):TT:=fun σ H Q=>t σ H fun c H1=>if c=true then u σ H1 Q else Q false H1
def tOr(t u:TT):TT:=fun σ H Q=>t σ H fun c H1=>if c=true then Q true H1 else u σ H1 Q
def dI6(t:TT):TT:=fun σ H Q=>t σ H fun c H1=>Q (!c) H1
theorem qR(ha:PT X a tA):PW X (.BoolOp .And [a] pos) tA:=by
 intro wh pins s σ H Q I h
 refine isTrue_and (thn (ha pins s σ H Q I h) fun c s1 e=>?_)
 cases c with
 | true=>exact isTrue_and_nil e
 | false=>exact e
theorem cR6(ha:PT X a tA):PW X (.BoolOp .Or [a] pos) tA:=by
 intro wh pins s σ H Q I h
 refine isTrue_or (thn (ha pins s σ H Q I h) fun c s1 e=>?_)
 cases c with
 | false=>exact isTrue_or_nil e
 | true=>exact e
theorem tD(ha:PT X a tA)(hb:PW X (.BoolOp .And (b::dI) pos) tB'):PW X (.BoolOp .And (a::b::dI) pos) (dI5 tA tB'):=by
 intro wh pins s σ H Q I h
 refine isTrue_and (thn (ha pins s σ H _ I h) fun c s1 ⟨H1,I1,q1⟩=>?_)
 cases c with
 | true=>exact hb wh pins s1 σ H1 Q I1 q1
 | false=>exact⟨H1,I1,q1⟩
theorem dE2(ha:PT X a tA)(hb:PW X (.BoolOp .Or (b::dI) pos) tB'):PW X (.BoolOp .Or (a::b::dI) pos) (tOr tA tB'):=by
 intro wh pins s σ H Q I h
 refine isTrue_or (thn (ha pins s σ H _ I h) fun c s1 ⟨H1,I1,q1⟩=>?_)
 cases c with
 | true=>exact⟨H1,I1,q1⟩
 | false=>exact hb wh pins s1 σ H1 Q I1 q1
theorem cR7(ha:PT X a tA):PT X (.UnaryOp .Not a pos) (dI6 tA):=by
 intro pins s σ H Q I h
 exact isTrue_not (ha pins s σ H (fun c H1=>Q (!c) H1) I h)
def bO7(ta tb:TE):TE:=fun σ H Q=>ta σ H fun x H1=>∃ c,x=.bl c/\if c=true then tb σ H1 Q else Q (.bl false) H1
def dL4(ta tb:TE):TE:=fun σ H Q=>ta σ H fun x H1=>∃ c,x=.bl c/\if c=true then Q (.bl true) H1 else tb σ H1 Q
def cF2(ta:TE):TE:=fun σ H Q=>ta σ H fun x H1=>∃ c,x=.bl c/\Q (.bl (!c)) H1
theorem aR3{op}{t:TE}(h:PE X a t):PE X (.BoolOp op [a] pos) t:=fun pins s σ H Q I hw=>BoolOp_one (h pins s σ H Q I hw)
theorem aR4(ha:PE X a ta)(hb:PE X (.BoolOp .And (b::dI) pos) tb):PE X (.BoolOp .And (a::b::dI) pos) (bO7 ta tb):=by
 intro pins s σ H Q I h
 refine BoolOp_and (thn (ha pins s σ H _ I h) fun v s1 ⟨x,H1,I1,r1,q1⟩=>?_)
 obtain⟨c,rfl,q1⟩:=q1
 cases r1
 refine wpAny_truthy_bool ?_
 cases c with
 | true=>exact hb pins s1 σ H1 Q I1 q1
 | false=>exact⟨.bl false,H1,I1,rfl,q1⟩
theorem cA3(ha:PE X a ta):PE X (.UnaryOp .Not a pos) (cF2 ta):=by
 intro pins s σ H Q I h
 refine UnaryOp_ (thn (ha pins s σ H _ I h) fun v s1 ⟨x,H1,I1,r1,q1⟩=>?_)
 obtain⟨c,rfl,q1⟩:=q1
 cases r1
 exact not_of (wpAny_truthy_bool ⟨.bl (!c),H1,I1,rfl,q1⟩)
def tIf(t:TT)(ta tb:TE):TE:=fun σ H Q=>t σ H fun c H1=>if c=true then ta σ H1 Q else tb σ H1 Q
theorem bO8{c:Expr}(hc:PT X c tA)(ha:PE X a ta)(hb:PE X b tb):PE X (.IfExp c a b pos) (tIf tA ta tb):=by
 intro pins s σ H Q I h
 refine wpAny_IfExp (thn (hc pins s σ H _ I h) fun d s1 ⟨H1,I1,q1⟩=>?_)
 cases d with
 | true=>exact ha pins s1 σ H1 Q I1 q1
 | false=>exact hb pins s1 σ H1 Q I1 q1
end
end L2
namespace L2
open PySem PySem.Spec PyProof.Rows
def SqL(K:PySem.W.Frag)(H:Hp)(a:Addr)(xs:List V):Prop:=
 Rd H a (.lst xs) \/
  ∃ (o:Obj) (its:Array Value) (n:Nat),K.lookup a=some o/\o.cls=.type "list"/\o.dict=none/\o.data=.seq its n/\its.size<=sizeLine/\cF xs its.toList
def SqT(K:PySem.W.Frag)(H:Hp)(a:Addr)(xs:List V):Prop:=
 Rd H a (.tup xs) \/
  ∃ (o:Obj) (its:Array Value) (n:Nat),K.lookup a=some o/\o.cls=.type "tuple"/\o.data=.seq its n/\its.size<=sizeLine/\cF xs its.toList
def dL5:Value->Option V
 | .none=>some .non
 | .bool b=>some (.bl b)
 | .int i _=>some (.int i)
 | .str x _=>some (.str x)
 | .bytes b _=>some (.byt b)
 | .float b _=>some (.flt b)
 | .ref a=>some (.ref a)
 | .type n=>some (.ty n)
 | _=>none
theorem eG.abs{x:V}{u:Value}(r:eG x u):dL5 u=some x:=by
 cases x with
 | non=>cases r;rfl
 | bl _=>cases r;rfl
 | int _=>obtain⟨t,rfl⟩:=r;rfl
 | str _=>obtain⟨t,rfl⟩:=r;rfl
 | byt _=>obtain⟨t,rfl⟩:=r;rfl
 | flt _=>obtain⟨t,rfl⟩:=r;rfl
 | ref _=>cases r;rfl
 | ty _=>cases r;rfl
theorem eG.inj{x y:V}{u:Value}(r:eG x u)(q:eG y u):x=y:=Option.some.inj (r.abs.symm.trans q.abs)
theorem cF.inj:∀ {xs ys:List V} {us:List Value},cF xs us->cF ys us->xs=ys
 | _,_,_,.nil,.nil=>rfl
 | _,_,_,.cons r t,.cons r' t'=>by rw[r.inj r',cF.inj t t']
section
variable{X:Cx}{pins:List (Addr×Obj)}{σ:St}{H:Hp}{s:Shared}{a:Addr}{xs ys:List V}
theorem SqL.of{K:PySem.W.Frag}(h:H a=some (.lst xs)):SqL K H a xs:=.inl (.inl h)
theorem SqT.of{K:PySem.W.Frag}(h:H a=some (.tup xs)):SqT K H a xs:=.inl (.inl h)
theorem Inv.list(I:Inv X pins σ H s)(h:SqL X.K H a xs):∃ its:List Value,cF xs its/\PlainL s.heap a its.toArray/\xs.length<=sizeLine:=by
 rcases h with h | ⟨o,its,n,hk,hc,hd,hs,hz,r⟩
 ·obtain⟨z,its,n,r,e⟩:=h.ok I.hok
  exact⟨its,r,⟨_,n,e,rfl,rfl,rfl⟩,z⟩
 ·refine⟨its.toList,r,⟨o,n,I.kIn a o hk,hc,hd,by simpa using hs⟩,?_⟩
  have e:=r.length
  simp only[Array.length_toList]at e
  omega
theorem Inv.tuple(I:Inv X pins σ H s)(h:SqT X.K H a xs):∃ its:List Value,cF xs its/\IsTup s.heap a its.toArray/\xs.length<=sizeLine:=by
 rcases h with h | ⟨o,its,n,hk,hc,hs,hz,r⟩
 ·obtain⟨z,its,r,p,_⟩:=h.ok I.hok
  exact⟨its,r,p,z⟩
 ·refine⟨its.toList,r,⟨o,I.kIn a o hk,hc,n,by simpa using hs⟩,?_⟩
  have e:=r.length
  simp only[Array.length_toList]at e
  omega
theorem Inv.list_inj(I:Inv X pins σ H s)(h:SqL X.K H a xs)(h':SqL X.K H a ys):xs=ys:=by
 obtain⟨its,r,⟨o,n,e,_,_,d⟩,_⟩:=I.list h
 obtain⟨its',r',⟨o',n',e',_,_,d'⟩,_⟩:=I.list h'
 rw[e]at e';cases e'
 rw[d]at d'
 injection d' with d1 _
 have:its=its':=by simpa using congrArg Array.toList d1
 subst this
 exact r.inj r'
theorem Inv.tuple_inj(I:Inv X pins σ H s)(h:SqT X.K H a xs)(h':SqT X.K H a ys):xs=ys:=by
 obtain⟨its,r,⟨o,e,_,n,d⟩,_⟩:=I.tuple h
 obtain⟨its',r',⟨o',e',_,n',d'⟩,_⟩:=I.tuple h'
 rw[e]at e';cases e'
 rw[d]at d'
 injection d' with d1 _
 have:its=its':=by simpa using congrArg Array.toList d1
 subst this
 exact r.inj r'
end
abbrev Cx.wish(X:Cx)(E:Value->Shared->Prop):Cx:={X with xe:=E}
abbrev Cx.nox(X:Cx):Cx:=X.wish fun _ _=>False
theorem Cx.Ok.wish{X:Cx}(ok:X.Ok)(E:Value->Shared->Prop):(X.wish E).Ok:=
 ⟨ok.mod,ok.kind,ok.glob,ok.blt,ok.above,ok.inj,ok.has,ok.cab,ok.hd,ok.frames,ok.stk,ok.exf,ok.bs,ok.bsz,ok.noex,ok.exfs,ok.funs,ok.frf⟩
theorem Cx.Ok.unwish{X:Cx}{E:Value->Shared->Prop}(ok:(X.wish E).Ok):X.Ok:=
 ⟨ok.mod,ok.kind,ok.glob,ok.blt,ok.above,ok.inj,ok.has,ok.cab,ok.hd,ok.frames,ok.stk,ok.exf,ok.bs,ok.bsz,ok.noex,ok.exfs,ok.funs,ok.frf⟩
section
variable{X:Cx}{pins:List (Addr×Obj)}{σ:St}{H:Hp}{s:Shared}{E:Value->Shared->Prop}
theorem Inv.wish(I:Inv X pins σ H s)(E:Value->Shared->Prop):Inv (X.wish E) pins σ H s:=⟨I.ok.wish E,I.os,I.bare,I.base,I.loc,I.cell,I.free,I.freeC,I.pin,I.hok,I.len⟩
theorem Inv.unwish(I:Inv (X.wish E) pins σ H s):Inv X pins σ H s:=⟨I.ok.unwish,I.os,I.bare,I.base,I.loc,I.cell,I.free,I.freeC,I.pin,I.hok,I.len⟩
theorem SP.unwish{D:Ends}{f:Flow}{s':Shared}(h:SP (X.wish E) pins D f s'):SP X pins D f s':=by
 cases f with
 | next=>obtain⟨σ',H',I,q⟩:=h;exact⟨σ',H',I.unwish,q⟩
 | brk=>obtain⟨σ',H',I,q⟩:=h;exact⟨σ',H',I.unwish,q⟩
 | cont=>obtain⟨σ',H',I,q⟩:=h;exact⟨σ',H',I.unwish,q⟩
 | ret u=>obtain⟨v,σ',H',I,r,q⟩:=h;exact⟨v,σ',H',I.unwish,r,q⟩
theorem PSs.nox{st:List Stmt}{t:TS}(h:PSs X.nox st t):PSs X st t:=fun pins s σ H D I hw=>
 wpAny_mono (h pins s σ H D (I.wish _) hw) (fun _ _ q=>q.unwish) fun _ _ z=>False.elim z
end
section
variable{X:Cx}{st:Stmt}{dI:List Stmt}{t u:TS}{e:Expr}{te:TE}{pos:Pos}
def cR8:TS:=fun D σ H=>D.nx σ H
def cR9(t u:TS):TS:=fun D σ H=>t {D with nx:=u D} σ H
theorem fU:PSs X [] cR8:=fun _ _ σ H _ I h=>wpAny_execs_nil ⟨σ,H,I,h⟩
theorem aW(h1:PS X st t)(h2:PSs X dI u):PSs X (st::dI) (cR9 t u):=by
 intro pins s σ H D I h
 refine wpAny_execs_cons (thn (h1 pins s σ H {D with nx:=u D} I h) fun f s1 q=>?_)
 cases f with
 | next=>
   obtain⟨σ',H',I',q⟩:=q
   exact h2 pins s1 σ' H' D I' q
 | ret v=>exact q
 | brk=>exact q
 | cont=>exact q
theorem bH(h1:PS X st t):PSs X [st] t:=by
 intro pins s σ H D I h
 refine wpAny_execs_cons (thn (h1 pins s σ H D I h) fun f s1 q=>?_)
 cases f with
 | next=>exact wpAny_execs_nil q
 | ret v=>exact q
 | brk=>exact q
 | cont=>exact q
theorem Inv.quiet{pins:List (Addr×Obj)}{σ:St}{H:Hp}{s:Shared}(I:Inv X pins σ H s):interactive X.env=false:=by simp[interactive,I.ok.kind]
def cS0(te:TE):TS:=fun D σ H=>te σ H fun _ H1=>D.nx σ H1
theorem fM(he:PE X e te)(hs:swapsWith e none pos.line X.env=pure false:=by rfl):PS X (.Expr e pos) (cS0 te):=by
 intro pins s σ H D I h
 exact wpAny_Expr_any (thn (he pins s σ H _ I h) fun v s1 ⟨x,H1,I1,r1,q1⟩=>⟨σ,H1,I1,q1⟩) I.quiet hs
def dI7(te:TE):TS:=fun D σ H=>te σ H D.rt
theorem mF(he:PE X e te):PS X (.Return (some e) pos) (dI7 te):=by
 intro pins s σ H D I h
 exact wpAny_Return_some (thn (he pins s σ H _ I h) fun v s1 ⟨x,H1,I1,r1,q1⟩=>⟨x,σ,H1,I1,r1,q1⟩)
def dE3:TS:=fun D _ H=>D.rt .non H
def dI8(c:TT)(t u:TS):TS:=fun D σ H=>c σ H fun b H1=>if b=true then t D σ H1 else u D σ H1
theorem nX{c:Expr}{a b:List Stmt}{tc:TT}(hc:PT X c tc)(ha:PSs X a t)(hb:PSs X b u):PS X (.If c a b pos) (dI8 tc t u):=by
 intro pins s σ H D I h
 refine wpAny_If (thn (hc pins s σ H _ I h) fun d s1 ⟨H1,I1,q1⟩=>?_)
 cases d with
 | true=>exact ha pins s1 σ H1 D I1 q1
 | false=>exact hb pins s1 σ H1 D I1 q1
end
abbrev TG:=V->St->Hp->(St->Hp->Prop)->Prop
abbrev TGs:=List V->St->Hp->(St->Hp->Prop)->Prop
def PG(X:Cx)(target:Expr)(t:TG):Prop:=
 ∀ (pins:List (Addr×Obj)) (s:Shared) (σ:St) (H:Hp) (v:V) (u:Value) (Q:St->Hp->Prop),Inv X pins σ H s->eG v u->t v σ H Q ->
   wpAny (model X.prog X.w) X.A (assign target X.env u) (fun _ s'=>∃ σ' H',Inv X pins σ' H' s'/\Q σ' H') X.xe s
def PGs(X:Cx)(ts:List Expr)(t:TGs):Prop:=
 ∀ (pins:List (Addr×Obj)) (s:Shared) (σ:St) (H:Hp) (vs:List V) (us:List Value) (Q:St->Hp->Prop),Inv X pins σ H s->cF vs us->t vs σ H Q ->
   wpAny (model X.prog X.w) X.A (assignInOrder ((assignEach ts X.env).map (·.2)) us) (fun _ s'=>∃ σ' H',Inv X pins σ' H' s'/\Q σ' H') X.xe s
abbrev dC1:=V->V->V->Hp->(Hp->Prop)->Prop
def dI9(X:Cx)(t:dC1):Prop:=
 ∀ (pins:List (Addr×Obj)) (s:Shared) (σ:St) (H:Hp) (o i v:V) (ov iv u:Value) (Q:Hp->Prop),Inv X pins σ H s->eG o ov->eG i iv->eG v u->t o i v H Q ->
   wpAny (model X.prog X.w) X.A (setItem ov iv u) (fun _ s'=>∃ H',Inv X pins σ H' s'/\Q H') X.xe s
section
variable{X:Cx}{pos:Pos}
def pH(i:Nat):TG:=fun v σ H Q=>Q (σ.set i (some v)) H
theorem bG{i:Nat}{x:Str}(hN:X.N.Nodup)(hi:X.N[i]? = some x)(hx:Loc X.env.scope x)(hf:X.fn x=true\/X.env.scope.names.lookup x=some .local:=by first | exact .inl rfl | exact .inr rfl | assumption):PG X (.Name x pos) (pH i):=by
 intro pins s σ H v u Q I r h
 exact wpAny_assign_Name (mE I hN hi hx r (fun s' I'=>⟨_,H,I',h⟩) hf)
def dE4:TGs:=fun vs σ H Q=>vs=[]/\Q σ H
def cF3(t:TG)(u:TGs):TGs:=fun vs σ H Q=>∃ v r,vs=v::r/\t v σ H fun σ' H'=>u r σ' H' Q
theorem lK:PGs X [] dE4:=by
 intro pins s σ H vs us Q I r h
 obtain⟨e,h⟩:=h
 subst e
 cases r
 exact assignInOrder_nil ⟨σ,H,I,h⟩
theorem cU{e:Expr}{es:List Expr}{t:TG}{u:TGs}(h1:PG X e t)(h2:PGs X es u)
  (hs:(assignEach (e::es) X.env).map (·.2)=assign e X.env::(assignEach es X.env).map (·.2):=by rfl):PGs X (e::es) (cF3 t u):=by
 intro pins s σ H vs us Q I r h
 obtain⟨v,vr,e1,h⟩:=h
 subst e1
 cases r with
 | cons r rr=>
   rw[hs]
   refine assignInOrder_cons (thn (h1 pins s σ H _ _ _ I r h) fun _ s1 ⟨σ1,H1,I1,q1⟩=>?_)
   exact h2 pins s1 σ1 H1 _ _ Q I1 rr q1
def dL6(K:PySem.W.Frag)(n:Nat)(t:TGs):TG:=fun v σ H Q=>∃ a xs,v=.ref a/\SqT K H a xs/\xs.length=n/\t xs σ H Q
theorem cS1{es:List Expr}{k:Nat}{t:TGs}{n:Nat}(hc:X.calm=true)(h:PGs X es t)
  (hn:(assignEach es X.env).length=n:=by rfl) (hst:(assignEach es X.env).findIdx? (·.1)=none:=by rfl):PG X (.Tuple es k pos) (dL6 X.K n t):=by
 intro pins s σ H v u Q I r hw
 obtain⟨a,xs,e1,hq,hl,hw⟩:=hw
 subst e1
 cases r
 obtain⟨its,rv,ht,hz⟩:=I.tuple hq
 refine assign_Tuple_tuple (I.ok.hd hc) ht (by simp[hn,← hl,rv.length]) hst fun h' hx=>?_
 have I1:Inv X pins σ H {s with heap:=h'}:=I.kept (t':=s.toks) fun b o e=>hx b o (Nat.ne_of_lt (Heap.lt_size e)) e
 exact h pins _ σ H xs _ Q I1 (by simpa using rv) hw
def dE5(to ti:TE)(t:dC1):TG:=fun v σ H Q=>to σ H fun o H1=>ti σ H1 fun i H2=>t o i v H2 fun H3=>Q σ H3
theorem xG{o i:Expr}{to ti:TE}{t:dC1}(ho:PE X o to)(hi:PE X i ti)(hs:dI9 X t)
  (ha:∀ v,assign (.Subscript o i pos) X.env v=(do
   let ov ← holding [v] (eval o X.env)
   let iv ← holding [v,ov] (eval i X.env)
   standAt pos
   holding [v,ov,iv] (setItem ov iv v)
   release [v,ov,iv] []):=by intro _;rfl):PG X (.Subscript o i pos) (dE5 to ti t):=by
 intro pins s σ H v u Q I r h
 rw[ha]
 refine wpAny_bind (wpAny_holding (thn (ho pins s σ H _ I h) fun ov s1 ⟨x,H1,I1,r1,q1⟩=>?_))
 refine wpAny_bind (wpAny_holding (thn (hi pins s1 σ H1 _ I1 q1) fun iv s2 ⟨y,H2,I2,r2,q2⟩=>?_))
 refine wpAny_bind (wpAny_standAt (wpAny_bind (wpAny_holding (thn (hs pins s2 σ H2 x y v ov iv u _ I2 r1 r2 r q2) fun _ s3 ⟨H3,I3,q3⟩=>?_))))
 exact wpAny_release ⟨σ,H3,I3,q3⟩
def bN9(te:TE)(g:TG):TS:=fun D σ H=>te σ H fun x H1=>g x σ H1 D.nx
theorem oN{tg e:Expr}{te:TE}{g:TG}(he:PE X e te)(hg:PG X tg g)(hs:swapsWithSole [tg] e pos.line X.env=pure false:=by rfl)(hw:swappedStores [tg] e X.env=pure none:=by rfl)
  (h1:(assignEach [tg] X.env).map (·.2)=[assign tg X.env]:=by rfl):PS X (.Assign [tg] e pos) (bN9 te g):=by
 intro pins s σ H D I h
 refine wpAny_Assign_stores (thn (he pins s σ H _ I h) fun v s1 ⟨x,H1,I1,r1,q1⟩=>?_) hs hw
 rw[h1]
 exact thn (hg pins s1 σ H1 x v _ I1 r1 q1) fun _ s2 q=>q
theorem cS{i:Nat}{x:Str}{e:Expr}{te:TE}{pos':Pos}(hN:X.N.Nodup)(hi:X.N[i]? = some x)(hx:Loc X.env.scope x)(he:PE X e te)(hs:swapsWith e (some (.Name x pos')) pos.line X.env=pure false:=by rfl)(hf:X.fn x=true\/X.env.scope.names.lookup x=some .local:=by first | exact .inl rfl | exact .inr rfl | assumption) :
  PS X (.Assign [.Name x pos'] e pos) (bN9 te (pH i)):=by
 intro pins s σ H D I h
 refine wpAny_Assign_Name (thn (he pins s σ H _ I h) fun v s1 ⟨y,H1,I1,r1,q1⟩=>?_) hs
 exact mE I1 hN hi hx r1 (fun s2 I2=>⟨_,H1,I2,q1⟩) hf
def dJ0(i j:Nat)(ta:TA):TS:=fun D σ H=>ta σ H fun vs H1=>∃ v w,vs=[v,w]/\D.nx ((σ.set i (some v)).set j (some w)) H1
theorem cS2{i j:Nat}{x y:Str}{a b:Expr}{ta:TA}{px py pt:Pos}{kt k2 pt2}(hc:X.calm=true)(hN:X.N.Nodup)(hi:X.N[i]? = some x)(hj:X.N[j]? = some y)(hij:i≠j)
  (hx:X.env.scope.names.lookup x=some .local) (hy:X.env.scope.names.lookup y=some .local) (ha:PA X [a,b] ta)
  (hw:swappedStores [.Tuple [.Name x px,.Name y py] kt pt] (.Tuple [a,b] k2 pt2) X.env=pure (some [x,y]))
  (hs:swapsWithSole [.Tuple [.Name x px,.Name y py] kt pt] (.Tuple [a,b] k2 pt2) pos.line X.env=pure false:=by rfl) :
  PS X (.Assign [.Tuple [.Name x px,.Name y py] kt pt] (.Tuple [a,b] k2 pt2) pos) (dJ0 i j ta):=by
 intro pins s σ H D I h
 rw[exec_Assign_arm]
 refine wpAny_bind (wpAny_standAt ?_)
 rw[hs]
 refine wpAny_bind (wpAny_pure ?_)
 rw[if_neg (by decide)]
 refine wpAny_bind (Tuple_ (thn (ha _ pins s σ H _ I h) fun us s1 ⟨vs,H1,I1,r1,q1⟩=>?_))
 obtain⟨v,w,e1,q1⟩:=q1
 subst e1
 obtain⟨u1,u2,rfl,rv,rw'⟩:∃ u1 u2,us=[u1,u2]/\eG v u1/\eG w u2:=by
  cases r1 with
  | cons p q=>
    cases q with
    | cons p' q'=>
      cases q'
      exact⟨_,_,rfl,p,p'⟩
 refine wpAny_newObj_type ?_ (by show 2<=sizeLine;decide)
 have I2:Inv X pins σ H1 {s1 with heap:=s1.heap.push {cls:=.type "tuple",data:=.seq [u1,u2].toArray}}:=I1.kept (t':=s1.toks) fun b o e=>Heap.get?_push_of_some _ e
 rw[hw]
 refine wpAny_bind (wpAny_pure ?_)
 show wpAny (model X.prog X.w) X.A (do rule "assign.swapped-stores";let items ← unpackItems (.ref s1.heap.objs.size) 2 none;assignInOrder [fun v=>bindName X.env y v,fun v=>bindName X.env x v] items.reverse;pure Flow.next) _ _ _
 refine wpAny_bind (wpAny_rule (wpAny_bind (unpackItems_tuple (items:=#[u1,u2]) (I.ok.hd hc) (IsTup.new s1.heap _) fun h' hx'=>?_)))
 have I3:=I2.kept (h':=h') (t':=s1.toks) fun b o e=>hx' b o (Nat.ne_of_lt (Heap.lt_size e)) e
 show wpAny _ _ (assignInOrder [fun v=>bindName X.env y v,fun v=>bindName X.env x v] [u2,u1] >>= fun _=>pure Flow.next) _ _ _
 refine wpAny_bind (assignInOrder_cons (wpAny_bindName (mE I3 hN hj (.inl hy) rw' (fun s2 I4=>?_) (.inr hy))))
 refine assignInOrder_cons (wpAny_bindName (mE I4 hN hi (.inl hx) rv (fun s3 I5=>assignInOrder_nil (wpAny_pure ?_)) (.inr hx)))
 rw[List.set_comm _ _ (Ne.symm hij)]at I5
 exact⟨_,H1,I5,q1⟩
end
section
variable{X:Cx}{pos:Pos}
def cA4(c:TT)(tb:TS):TS:=fun D σ H=>∃ W:Nat->St->Hp->Prop,(∃ m,W m σ H)/\∀ m σ H,W m σ H ->
 c σ H fun b H1=>if b=true then ∃ N:St->Hp->Prop,(∀ σ' H',N σ' H'->∃ m',m' < m/\W m' σ' H')/\tb {D with nx:=N,ct:=N,bk:=D.nx} σ H1 else D.nx σ H1
theorem bO9{c:Expr}{body:List Stmt}{tc:TT}{tb:TS}(hp:PassesOwn (model X.prog X.w) X.A X.env X.xe)(hc:PT X c tc)(hb:PSs X body tb):PS X (.While c body [] pos) (cA4 tc tb):=by
 intro pins s σ H D I h
 obtain⟨W,⟨m0,w0⟩,turn⟩:=h
 refine wpAny_While (codeAny_whileLoop (fun n s'=>∃ σ' H',Inv X pins σ' H' s'/\W n σ' H') ?_ m0 ⟨σ,H,I,w0⟩)
 rintro n s1 ⟨σ1,H1,I1,w1⟩
 refine wpAny_passesOwn hp (thn (hc pins s1 σ1 H1 _ I1 (turn n σ1 H1 w1)) fun b s2 ⟨H2,I2,q2⟩=>?_)
 cases b with
 | true=>
   obtain⟨N,hN,q2⟩:=q2
   rw[if_pos rfl]
   refine wpAny_passesOwn hp (thn (hb pins s2 σ1 H2 _ I2 q2) fun f s3 q3=>?_)
   cases f with
   | next=>
     obtain⟨σ3,H3,I3,n3⟩:=q3
     obtain⟨m',hm,w3⟩:=hN σ3 H3 n3
     exact⟨m',hm,σ3,H3,I3,w3⟩
   | cont=>
     obtain⟨σ3,H3,I3,n3⟩:=q3
     obtain⟨m',hm,w3⟩:=hN σ3 H3 n3
     exact⟨m',hm,σ3,H3,I3,w3⟩
   | brk=>exact q3
   | ret v=>exact q3
 | false=>
   rw[if_neg Bool.false_ne_true]
   exact wpAny_execs_nil ⟨σ1,H2,I2,q2⟩
end
structure It where
 go:Nat->Hp->Prop
 yld:Nat->Hp->V->Hp->Prop
 stop:Nat->Hp->Prop
def aR5(X:Cx)(pins:List (Addr×Obj))(H:Hp)(b:Addr):Prop:=
 H b=none/\b≠X.env.locals/\b∉X.fs/\(b∈X.ex\/X.s₀.heap.objs.size<=b)/\(∀ x c,X.env.cells.lookup x=some c->c≠b)/\∀ p∈X.pn++pins,p.1≠b
theorem Inv.fpOk{X:Cx}{pins:List (Addr×Obj)}{σ:St}{H H':Hp}{s:Shared}{b:Addr}(I:Inv X pins σ H s)(hb:s.heap.objs.size<=b)(hn:H' b=none):aR5 X pins H' b:=by
 refine⟨hn,Nat.ne_of_gt (Nat.lt_of_lt_of_le I.lt hb),I.nofs hb,.inr (Nat.le_trans I.sz hb),fun x c e z=>?_,fun p hp z=>?_⟩
 ·obtain⟨v,q⟩:=I.cell x c e
  exact absurd (Nat.lt_of_lt_of_le q.lt (by rw[z];exact hb)) (Nat.lt_irrefl _)
 ·exact absurd (Nat.lt_of_lt_of_le (Heap.lt_size (I.pin p hp).1) (by rw[z];exact hb)) (Nat.lt_irrefl _)
structure Turn(P:Program)(w:World)(K:PySem.W.Frag)(tg:Expr)(J:It)(fp:List Addr)(it:Addr)(tn:Nat->Heap->Prop):Prop where
 mem:it∈fp
 obj:∀ i h,tn i h->∀ b∈fp,∃ o,h.get? b=some o/\∀ v,o.data≠.cell v
 keep:∀ i h h',tn i h->(∀ b∈fp,∀ o,h.get? b=some o->h'.get? b=some o)->tn i h'
 item:∀ (X:Cx),X.prog=P->X.w=w->X.K=K->X.calm=true->∀ (i:Nat) (pins:List (Addr×Obj)) (s:Shared) (σ:St) (H:Hp) (E:Value->Shared->Prop),Inv X pins σ H s->(∀ b∈fp,aR5 X pins H b)->tn i s.heap->J.go i H ->
  wpAny (model P w) X.A (pyNext (.ref it)) (fun r s1=>∃ u,r=some u /\
   wpAny (model P w) X.A (letOwnedTupleGo tg (.ref it) u) (fun _ s2=>∃ x H',Inv X pins σ H' s2/\eG x u/\J.yld i H x H'/\tn (i+1) s2.heap/\∀ b∈fp,H' b=none) E s1) E s
 done:∀ (X:Cx),X.prog=P->X.w=w->X.K=K->X.calm=true->∀ (i:Nat) (pins:List (Addr×Obj)) (s:Shared) (σ:St) (H:Hp) (E:Value->Shared->Prop),Inv X pins σ H s->(∀ b∈fp,aR5 X pins H b)->tn i s.heap->J.stop i H ->
  wpAny (model P w) X.A (pyNext (.ref it)) (fun r s1=>r=none/\Inv X pins σ H s1) E s
 self:∀ (A:Around) (i:Nat) (s:Shared) (Q:Value->Shared->Prop) (E:Value->Shared->Prop),tn i s.heap->Q (.ref it) s->wpAny (model P w) A (pyIter (.ref it)) Q E s
abbrev TI:=St->Hp->(It->Hp->Prop)->Prop
def PIE(X:Cx)(pins:List (Addr×Obj))(σ:St)(tg:Expr)(R:It->Hp->Prop)(itv:Value)(s2:Shared):Prop:=
 ∃ (it:Addr) (fp:List Addr) (tn:Nat->Heap->Prop) (J:It) (H':Hp),itv=.ref it/\Inv X pins σ H' s2/\Turn X.prog X.w X.K tg J fp it tn/\tn 0 s2.heap/\(∀ b∈fp,aR5 X pins H' b)/\R J H'
def PI(X:Cx)(tg iter:Expr)(wi:TI):Prop:=
 ∀ (pins:List (Addr×Obj)) (s:Shared) (σ:St) (H:Hp) (R:It->Hp->Prop),Inv X pins σ H s->wi σ H R ->
   wpAny (model X.prog X.w) X.A (eval iter X.env) (fun v s1=>wpAny (model X.prog X.w) X.A (pyIter v) (PIE X pins σ tg R) X.xe s1) X.xe s
theorem aR6{M:Model}{A:Around}{E:Value->Shared->Prop}{s:Shared}{tg:Expr}{it:Addr}{u:Value}{o:Obj}{n:String}{vs:Array Value}{Q:Unit->Shared->Prop}(ho:s.heap.get? it=some o)(hc:o.cls=.type n)(hd:o.data=.fields vs)
  (hn:["enumerate","zip","dict_itemiterator","dict_reverseitemiterator","odict_iterator","itertools.zip_longest","itertools.pairwise"].contains n=false) (hQ:Q () s):wpAny M A (letOwnedTupleGo tg (.ref it) u) Q E s:=by
 unfold letOwnedTupleGo
 cases tg<;>first
  | exact wpAny_pure hQ
  | (cases u<;>first
    | exact wpAny_pure hQ
    | (refine wpAny_bind (wpAny_load ho ?_)
       rw[hc,hd]
       show wpAny M A (if(["enumerate","zip","dict_itemiterator","dict_reverseitemiterator","odict_iterator","itertools.zip_longest","itertools.pairwise"].contains n&&vs[0]? == some (rawInt _))=true then _ else _) Q E s
       rw[if_neg (by intro h;rw[hn,Bool.false_and]at h;cases h)]
       exact wpAny_pure hQ))
def Itl(K:PySem.W.Frag)(a:Addr):It:=
 ⟨fun i H=>∃ xs x,SqL K H a xs/\xs[i]? = some x,fun i H x H'=>H'=H/\∀ xs,SqL K H a xs->xs[i]? = some x,fun i H=>∃ xs,SqL K H a xs/\xs.length<=i⟩
def Itt(K:PySem.W.Frag)(a:Addr):It:=
 ⟨fun i H=>∃ xs x,SqT K H a xs/\xs[i]? = some x,fun i H x H'=>H'=H/\∀ xs,SqT K H a xs->xs[i]? = some x,fun i H=>∃ xs,SqT K H a xs/\xs.length<=i⟩
def Itr(lo:Int)(n:Nat):It:=⟨fun i _=>i < n,fun i H x H'=>H'=H/\x=.int (lo+i),fun i _=>n<=i⟩
theorem aR7{P:Program}{w:World}{K:PySem.W.Frag}{tg:Expr}(a it:Addr):Turn P w K tg (Itl K a) [it] it (fun i h=>h.IsListIter it a i) where
 mem:=by simp
 obj:=fun i h st b hb=>by
  have e:b=it:=by simpa using hb
  subst e
  obtain⟨o,e,c,d⟩:=st
  exact⟨o,e,fun v z=>by rw[d]at z;cases z⟩
 keep:=fun i h h' st k=>st.at fun o e=>k it (by simp) o e
 item:=by
  intro X hP hw hK hc i pins s σ H E I hf st hg
  subst hP hw hK
  obtain⟨xs,x,hq,hx⟩:=hg
  obtain⟨its,rv,p,hz⟩:=I.list hq
  obtain⟨u,hu,ru⟩:=rv.get hx
  obtain⟨f0,f1,f2,f3,f4,f5⟩:=hf it (by simp)
  refine wpAny_pyNext_list_item st p.isList (x:=u) (by simpa using hu) fun h' st' sb=>?_
  have I1:Inv X pins σ H {s with heap:=h'}:=I.turned (t':=s.toks) (fun b o hb e=>(sb.2 b hb).trans e) f0 f1 f3 f4 f5
  obtain⟨o,e,c,d⟩:=id st'
  exact⟨u,rfl,aR6 (s:={s with heap:=h'}) e c d (by decide) ⟨x,H,I1,ru,⟨rfl,fun ys hy=>by rw[I.list_inj hy hq];exact hx⟩,st',fun b hb=>(hf b hb).1⟩⟩
 done:=by
  intro X hP hw hK hc i pins s σ H E I hf st hg
  subst hP hw hK
  obtain⟨xs,hq,hx⟩:=hg
  obtain⟨its,rv,p,hz⟩:=I.list hq
  obtain⟨f0,f1,f2,f3,f4,f5⟩:=hf it (by simp)
  have hl:=rv.length
  exact wpAny_pyNext_list_end (I.ok.hd hc) st p.isList (by simp;omega) fun h' eb=>⟨rfl,I.turned (t':=s.toks) (fun b o hb e=>eb b o hb e) f0 f1 f3 f4 f5⟩
 self:=fun _ _ _ _ _ st h=>wpAny_pyIter_listiter st h
theorem aM1{P:Program}{w:World}{K:PySem.W.Frag}{tg:Expr}(a it:Addr):Turn P w K tg (Itt K a) [it] it (fun i h=>h.IsTupleIter it a i) where
 mem:=by simp
 obj:=fun i h st b hb=>by
  have e:b=it:=by simpa using hb
  subst e
  obtain⟨o,e,c,d⟩:=st
  exact⟨o,e,fun v z=>by rw[d]at z;cases z⟩
 keep:=fun i h h' st k=>st.at fun o e=>k it (by simp) o e
 item:=by
  intro X hP hw hK hc i pins s σ H E I hf st hg
  subst hP hw hK
  obtain⟨xs,x,hq,hx⟩:=hg
  obtain⟨its,rv,p,hz⟩:=I.tuple hq
  obtain⟨u,hu,ru⟩:=rv.get hx
  obtain⟨f0,f1,f2,f3,f4,f5⟩:=hf it (by simp)
  refine wpAny_pyNext_tuple_item st (show s.heap.IsTuple a its.toArray from p) (x:=u) (by simpa using hu) fun h' st' sb=>?_
  have I1:Inv X pins σ H {s with heap:=h'}:=I.turned (t':=s.toks) (fun b o hb e=>(sb.2 b hb).trans e) f0 f1 f3 f4 f5
  obtain⟨o,e,c,d⟩:=id st'
  exact⟨u,rfl,aR6 (s:={s with heap:=h'}) e c d (by decide) ⟨x,H,I1,ru,⟨rfl,fun ys hy=>by rw[I.tuple_inj hy hq];exact hx⟩,st',fun b hb=>(hf b hb).1⟩⟩
 done:=by
  intro X hP hw hK hc i pins s σ H E I hf st hg
  subst hP hw hK
  obtain⟨xs,hq,hx⟩:=hg
  obtain⟨its,rv,p,hz⟩:=I.tuple hq
  obtain⟨f0,f1,f2,f3,f4,f5⟩:=hf it (by simp)
  have hl:=rv.length
  exact wpAny_pyNext_tuple_end (I.ok.hd hc) st (show s.heap.IsTuple a its.toArray from p) (by simp;omega) fun h' eb=>⟨rfl,I.turned (t':=s.toks) (fun b o hb e=>eb b o hb e) f0 f1 f3 f4 f5⟩
 self:=fun _ _ _ _ _ st h=>wpAny_pyIter_tupleiter st h
theorem aM2{P:Program}{w:World}{K:PySem.W.Frag}{tg:Expr}(it:Addr)(lo:Int)(n:Nat):Turn P w K tg (Itr lo n) [it] it (fun i h=>IsRangeIter h it (lo+(i:Nat)*1) ((n:Int)-(i:Nat)) 1) where
 mem:=by simp
 obj:=fun i h st b hb=>by
  have e:b=it:=by simpa using hb
  subst e
  exact⟨_,st,fun v z=>by
   have z':Data.fields _=Data.cell v:=z
   cases z'⟩
 keep:=fun i h h' st k=>k it (by simp) _ st
 item:=by
  intro X hP hw hK hc i pins s σ H E I hf st hg
  subst hP hw hK
  obtain⟨f0,f1,f2,f3,f4,f5⟩:=hf it (by simp)
  have W:=Walks.range (prog:=X.prog) (w:=X.w) (I.ok.hd hc) it lo 1 n
  refine W.item i s _ _ hg st fun v h' tk hv st' kk=>?_
  obtain⟨t,rfl⟩:=hv
  have I1:Inv X pins σ H {s with heap:=h',toks:=tk}:=I.turned (fun b o hb e=>kk b o (by simpa using hb) e) f0 f1 f3 f4 f5
  refine⟨_,rfl,aR6 (s:={s with heap:=h',toks:=tk}) (n:="range_iterator") st' rfl rfl (by decide) ⟨.int (lo+i),H,I1,⟨t,?_⟩,⟨rfl,rfl⟩,st',fun b hb=>(hf b hb).1⟩⟩
  rw[Int.mul_one]
 done:=by
  intro X hP hw hK hc i pins s σ H E I hf st hg
  subst hP hw hK
  obtain⟨f0,f1,f2,f3,f4,f5⟩:=hf it (by simp)
  exact wpAny_pyNext_range_end (I.ok.hd hc) st (by have:n<=i:=hg;omega) fun h' eb=>⟨rfl,I.turned (t':=s.toks) (fun b o hb e=>eb b o hb e) f0 f1 f3 f4 f5⟩
 self:=fun _ _ _ _ _ st h=>wpAny_pyIter_rangeiter st h
end L2
namespace L2
open PySem PySem.Spec PyProof.Rows
section
variable{X:Cx}{tg:Expr}
theorem aG6{pins:List (Addr×Obj)}{σ:St}{H:Hp}{s:Shared}{R:It->Hp->Prop}{E:Value->Shared->Prop}{lo hi:Int}{t u v:Tok}{tk:Nat}(I:Inv X pins σ H s)(h1:-(2 ^ 62)<=lo)(h2:lo < 2 ^ 62)(h3:-(2 ^ 62)<=hi)(h4:hi < 2 ^ 62)
  (q:R (Itr lo (hi-lo).toNat) H):wpAny (model X.prog X.w) X.A (pyIter (.ref s.heap.objs.size)) (PIE X pins σ tg R) E {s with heap:=s.heap.push {cls:=.type "range",data:=.fields #[.int lo t,.int hi u,.int 1 v]},toks:=tk}:=by
 refine wpAny_pyIter_range (IsRange.new ..) (small_one h1 h2 h3 h4) ?_
 have I1:Inv X pins σ H {s with heap:=s.heap.push {cls:=.type "range",data:=.fields #[.int lo t,.int hi u,.int 1 v]},toks:=tk}:=I.kept fun b o e=>Heap.get?_push_of_some _ e
 refine⟨(s.heap.push {cls:=.type "range",data:=.fields #[.int lo t,.int hi u,.int 1 v]}).objs.size,[(s.heap.push {cls:=.type "range",data:=.fields #[.int lo t,.int hi u,.int 1 v]}).objs.size],_,_,H,rfl,
  I1.kept (t':=tk) fun b o e=>Heap.get?_push_of_some _ e,aM2 _ lo (hi-lo).toNat,?_,fun b hb=>?_,q⟩
 ·have e1:lo+((0:Nat):Int)*1=lo:=by simp
  have e2:(((hi-lo).toNat:Nat):Int)-((0:Nat):Int)=Builtin.Range.rangeSize lo hi 1:=by rw[rangeSize_one];split<;>omega
  show IsRangeIter _ _ (lo+((0:Nat):Int)*1) ((((hi-lo).toNat:Nat):Int)-((0:Nat):Int)) 1
  rw[e1,e2]
  exact Heap.get?_push_size _ rfl
 ·have e:b=(s.heap.push {cls:=.type "range",data:=.fields #[.int lo t,.int hi u,.int 1 v]}).objs.size:=by simpa using hb
  subst e
  exact I1.fpOk (Nat.le_refl _) (I1.hok.fresh (Nat.le_refl _))
def cF4(ta:TA):TI:=fun σ H R=>ta σ H fun vs H1=>∃ j:Int,vs=[.int j] /\ -(2 ^ 62)<=j/\j < 2 ^ 62/\R (Itr 0 j.toNat) H1
def cF5(ta:TA):TI:=fun σ H R=>ta σ H fun vs H1=>∃ i j:Int,vs=[.int i,.int j]/\(-(2 ^ 62)<=i/\i < 2 ^ 62 /\ -(2 ^ 62)<=j/\j < 2 ^ 62)/\R (Itr i (j-i).toNat) H1
theorem eW{a:Expr}{ta:TA}{p pos:Pos}(hg:Gl X "range")(hm:X.mg "range"=none)(ha:PA X [a] ta)(hs:starEach [a] X.env=[(false,eval a X.env)]:=by rfl):PI X tg (.Call (.Name "range" p) [a] [] pos) (cF4 ta):=by
 intro pins s σ H R I h
 refine Call_ (kZ I hg hm boot_range (PyProof.Rows.callWith_type1 (thn (ha pos pins s σ H _ I h) fun us s1 ⟨vs,H1,I1,r1,q1⟩=>?_) hs rfl))
 obtain⟨j,e,q1,q2,q⟩:=q1
 subst e
 cases r1 with
 | cons r rr=>
   cases rr
   obtain⟨t,rfl⟩:=r
   exact call_range_1 (aG6 I1 (by omega) (by omega) q1 q2 (by simpa using q))
theorem aR8{a b:Expr}{ta:TA}{p pos:Pos}(hg:Gl X "range")(hm:X.mg "range"=none)(ha:PA X [a,b] ta)(hs:starEach [a,b] X.env=[(false,eval a X.env),(false,eval b X.env)]:=by rfl)(hs2:starEach [b] X.env=[(false,eval b X.env)]:=by rfl) :
  PI X tg (.Call (.Name "range" p) [a,b] [] pos) (cF5 ta):=by
 intro pins s σ H R I h
 refine Call_ (kZ I hg hm boot_range (PyProof.Rows.callWith_type1 (thn (ha pos pins s σ H _ I h) fun us s1 ⟨vs,H1,I1,r1,q1⟩=>?_) (by rw[hs,hs2]) (by rw[hs2];rfl)))
 obtain⟨i,j,e,⟨q1,q2,q3,q4⟩,q⟩:=q1
 subst e
 cases r1 with
 | cons r rr=>
   cases rr with
   | cons r' rr=>
     cases rr
     obtain⟨t,rfl⟩:=r
     obtain⟨t',rfl⟩:=r'
     exact call_range_2 (aG6 I1 q1 q2 q3 q4 q)
def dC2(wi:TI)(g:TG)(tb:TS):TS:=fun D σ H=>wi σ H fun J H1=>∃ W:Nat->Nat->St->Hp->Prop,(∃ m,W 0 m σ H1)/\∀ i m σ H,W i m σ H ->
 (J.stop i H/\D.nx σ H)\/(J.go i H/\∃ N:St->Hp->Prop,(∀ σ' H',N σ' H'->∃ m',m' < m/\W (i+1) m' σ' H')/\∀ x H',J.yld i H x H'->g x σ H' fun σ2 H2=>tb {D with nx:=N,ct:=N,bk:=D.nx} σ2 H2)
def qS(fp:List Addr)(h:Heap):List (Addr×Obj):=fp.filterMap fun b=>(h.get? b).map fun o=>(b,o)
theorem kK{fp:List Addr}{h:Heap}{b:Addr}{o:Obj}(hb:b∈fp)(e:h.get? b=some o):(b,o)∈qS fp h:=List.mem_filterMap.mpr ⟨b,hb,by rw[e];rfl⟩
theorem aR9{fp:List Addr}{h:Heap}{p:Addr×Obj}(hp:p∈qS fp h):p.1∈fp/\h.get? p.1=some p.2:=by
 obtain⟨b,hb,e⟩:=List.mem_filterMap.mp hp
 cases q:h.get? b with
 | none=>rw[q]at e;cases e
 | some o=>
   rw[q]at e
   have e':(b,o)=p:=Option.some.inj e
   subst e'
   exact⟨hb,q⟩
theorem Inv.pinned{pins:List (Addr×Obj)}{σ:St}{H:Hp}{s:Shared}{fp:List Addr}(I:Inv X pins σ H s)(hf:∀ b∈fp,aR5 X pins H b)(ho:∀ b∈fp,∃ o,s.heap.get? b=some o/\∀ v,o.data≠.cell v):Inv X (pins++qS fp s.heap) σ H s:=
 I.pins_of fun p hp=>(List.mem_append.mp hp).elim (fun z=>I.pin p (List.mem_append_right _ z)) fun z=>by
  obtain⟨hb,e⟩:=aR9 z
  obtain⟨f0,f1,f2,_⟩:=hf p.1 hb
  obtain⟨o,e',d⟩:=ho p.1 hb
  rw[e]at e';cases e'
  exact⟨e,f0,f1,f2,d⟩
theorem Inv.unpinned{pins pl:List (Addr×Obj)}{σ:St}{H:Hp}{s:Shared}(I:Inv X (pins++pl) σ H s):Inv X pins σ H s:=I.pins_of fun p hp=>I.pin p (List.mem_append_right _ (List.mem_append_left _ hp))
theorem jO{iter:Expr}{body:List Stmt}{wi:TI}{g:TG}{tb:TS}{pos:Pos}(hp:PassesOwn (model X.prog X.w) X.A X.env X.xe)(hc:X.calm=true)(hi:PI X tg iter wi)(hg:PG X tg g)(hb:PSs X body tb)
  (hs:∀ x,foldedSetIterable iter X.env x=pure x:=by intro _;rfl):PS X (.For tg iter body [] pos) (dC2 wi g tb):=by
 intro pins s σ H D I h
 refine wpAny_For (thn (hi pins s σ H _ I h) fun v s1 h1=>thn h1 fun itv s2 h2=>?_) hs
 obtain⟨it,fp,tn,J,H2,e,I2,T,st2,f2,W,⟨m0,w0⟩,turn⟩:=h2
 subst e
 -- what stays true of the iterator's objects through the loop
 have stat:∀ {H':Hp},(∀ b∈fp,H' b=none)->∀ b∈fp,aR5 X pins H' b:=fun hn b hb=>⟨hn b hb,(f2 b hb).2⟩
 refine codeAny_forLoop_any (fun n s'=>∃ i σ' H',Inv X pins σ' H' s'/\tn i s'.heap/\(∀ b∈fp,H' b=none)/\W i n σ' H') ?_ m0 ⟨0,σ,H2,I2,st2,fun b hb=>(f2 b hb).1,w0⟩
 rintro n s3 ⟨i,σ3,H3,I3,st3,fr3,w3⟩
 rcases turn i n σ3 H3 w3 with⟨stop,qn⟩ | ⟨go,N,hN,step⟩
 ·refine wpAny_passesOwn hp (thn (T.done X rfl rfl rfl hc i pins s3 σ3 H3 X.xe I3 (stat fr3) st3 stop) fun r s4 ⟨hr,I4⟩=>?_)
  subst hr
  exact wpAny_execs_nil ⟨σ3,H3,I4,qn⟩
 ·refine wpAny_passesOwn hp (thn (T.item X rfl rfl rfl hc i pins s3 σ3 H3 X.xe I3 (stat fr3) st3 go) fun r s4 ⟨u,hr,h4⟩=>?_)
  subst hr
  refine wpAny_passesOwn hp (thn h4 fun _ s5 ⟨x,H5,I5,r5,y5,st5,fr5⟩=>?_)
  have I5':=I5.pinned (stat fr5) (T.obj _ _ st5)
  refine wpAny_passesOwn hp (thn (hg _ s5 σ3 H5 x u _ I5' r5 (step x H5 y5)) fun _ s6 ⟨σ6,H6,I6,q6⟩=>?_)
  refine wpAny_passesOwn hp (thn (hb _ s6 σ6 H6 _ I6 q6) fun f s7 q7=>?_)
  have again:∀ {σ7:St} {H7:Hp},Inv X (pins++qS fp s5.heap) σ7 H7 s7->N σ7 H7->∃ m,m < n/\∃ i σ' H',Inv X pins σ' H' s7/\tn i s7.heap/\(∀ b∈fp,H' b=none)/\W i m σ' H':=fun{σ7 H7} I7 n7=>by
   obtain⟨m',hm,w7⟩:=hN σ7 H7 n7
   refine⟨m',hm,i+1,σ7,H7,I7.unpinned,T.keep _ _ _ st5 fun b hb o e=>(I7.pin (b,o) (List.mem_append_right _ (List.mem_append_right _ (kK hb e)))).1,fun b hb=>?_,w7⟩
   obtain⟨o,e,d⟩:=T.obj _ _ st5 b hb
   exact(I7.pin (b,o) (List.mem_append_right _ (List.mem_append_right _ (kK hb e)))).2.1
  cases f with
  | next=>obtain⟨σ7,H7,I7,n7⟩:=q7;exact again I7 n7
  | cont=>obtain⟨σ7,H7,I7,n7⟩:=q7;exact again I7 n7
  | brk=>obtain⟨σ7,H7,I7,q7⟩:=q7;exact⟨σ7,H7,I7.unpinned,q7⟩
  | ret v=>obtain⟨x7,σ7,H7,I7,r7,q7⟩:=q7;exact⟨x7,σ7,H7,I7.unpinned,r7,q7⟩
end
end L2
namespace L2
open PySem PySem.Spec PyProof.Rows
abbrev R2:=V->V->Hp->VK->Prop
def OpR(X:Cx)(f:Value->Value->Sem Value)(r:R2):Prop:=
 ∀ (pins:List (Addr×Obj)) (s:Shared) (σ:St) (H:Hp) (x y:V) (v u:Value) (Q:VK),Inv X pins σ H s->eG x v->eG y u->r x y H Q ->
   wpAny (model X.prog X.w) X.A (f v u) (EP X pins σ Q) X.xe s
def UnR(X:Cx)(f:Value->Sem Value)(r:V->Hp->VK->Prop):Prop:=
 ∀ (pins:List (Addr×Obj)) (s:Shared) (σ:St) (H:Hp) (x:V) (v:Value) (Q:VK),Inv X pins σ H s->eG x v->r x H Q ->
   wpAny (model X.prog X.w) X.A (f v) (EP X pins σ Q) X.xe s
def kW(X:Cx)(f:Value)(r:List V->Hp->VK->Prop):Prop:=
 ∀ (pins:List (Addr×Obj)) (s:Shared) (σ:St) (H:Hp) (xs:List V) (us:List Value) (Q:VK),Inv X pins σ H s->cF xs us->r xs H Q ->
   wpAny (model X.prog X.w) X.A (call f us) (EP X pins σ Q) X.xe s
def tOp(r:R2)(ta tb:TE):TE:=fun σ H Q=>ta σ H fun x H1=>tb σ H1 fun y H2=>r x y H2 Q
def tUn(r:V->Hp->VK->Prop)(ta:TE):TE:=fun σ H Q=>ta σ H fun x H1=>r x H1 Q
def rI(C:Int->Int->Prop)(g:Int->Int->V):R2:=fun x y H Q=>∃ i j,x=.int i/\y=.int j/\C i j/\Q (g i j) H
def rI0(g:Int->Int->V):R2:=fun x y H Q=>∃ i j,x=.int i/\y=.int j/\Q (g i j) H
def rU(g:Int->V):V->Hp->VK->Prop:=fun x H Q=>∃ i,x=.int i/\Q (g i) H
section
variable{X:Cx}{a b c:Expr}{ta tb tc:TE}{pos:Pos}
theorem dE6(ha:PE X a ta)(hb:PE X b tb){pins:List (Addr×Obj)}{s:Shared}{σ:St}{H:Hp}{R:V->V->Hp->Prop}(I:Inv X pins σ H s)
  (h:ta σ H fun x H1=>tb σ H1 fun y H2=>R x y H2) {Q:Value->Shared->Prop} {f:Value->Value->Sem Value}
  (hf:∀ v u s2 x y H2,Inv X pins σ H2 s2->eG x v->eG y u->R x y H2->wpAny (model X.prog X.w) X.A (f v u) Q X.xe s2) :
  wpAny (model X.prog X.w) X.A (eval a X.env) (fun v s₁=>wpAny (model X.prog X.w) X.A (eval b X.env) (fun u s₂=>wpAny (model X.prog X.w) X.A (f v u) Q X.xe s₂) X.xe s₁) X.xe s:=by
 refine thn (ha pins s σ H _ I h) fun v s1 ⟨x,H1,I1,r1,q1⟩=>?_
 refine thn (hb pins s1 σ H1 _ I1 q1) fun u s2 ⟨y,H2,I2,r2,q2⟩=>?_
 exact hf v u s2 x y H2 I2 r1 r2 q2
theorem fP{op:Operator}{r:R2}(ho:OpR X (binaryOp op) r)(ha:PE X a ta)(hb:PE X b tb):PE X (.BinOp a op b pos) (tOp r ta tb):=by
 intro pins s σ H Q I h
 exact wpAny_BinOp (dE6 ha hb I h fun v u s2 x y H2 I2 rx ry q=>ho pins s2 σ H2 x y v u Q I2 rx ry q)
theorem dE7{op:UnaryOp}{r:V->Hp->VK->Prop}(ho:UnR X (unaryOp op) r)(ha:PE X a ta):PE X (.UnaryOp op a pos) (tUn r ta):=by
 intro pins s σ H Q I h
 exact UnaryOp_ (thn (ha pins s σ H _ I h) fun v s1 ⟨x,H1,I1,r1,q1⟩=>ho pins s1 σ H1 x v Q I1 r1 q1)
theorem opI{f:Value->Value->Sem Value}{C:Int->Int->Prop}{g:Int->Int->Int}
  (rule:∀ (i j:Int) (t u:Tok) (s:Shared) (Q:Value->Shared->Prop) (E:Value->Shared->Prop),C i j->Q (.int (g i j) s.toks) {s with toks:=s.toks+1}->wpAny (model X.prog X.w) X.A (f (.int i t) (.int j u)) Q E s) :
  OpR X f (rI C fun i j=>.int (g i j)):=by
 intro pins s σ H x y v u Q I rx ry h
 obtain⟨i,j,rfl,rfl,hc,q⟩:=h
 obtain⟨t,rfl⟩:=rx
 obtain⟨t',rfl⟩:=ry
 exact rule i j t t' s _ _ hc ⟨.int (g i j),H,I.tok _,⟨_,rfl⟩,q⟩
theorem dJ1{f:Value->Value->Sem Value}{g:Int->Int->Int}
  (rule:∀ (i j:Int) (t u:Tok) (s:Shared) (Q:Value->Shared->Prop) (E:Value->Shared->Prop),Q (.int (g i j) s.toks) {s with toks:=s.toks+1}->wpAny (model X.prog X.w) X.A (f (.int i t) (.int j u)) Q E s) :
  OpR X f (rI0 fun i j=>.int (g i j)):=by
 intro pins s σ H x y v u Q I rx ry h
 obtain⟨i,j,rfl,rfl,q⟩:=h
 obtain⟨t,rfl⟩:=rx
 obtain⟨t',rfl⟩:=ry
 exact rule i j t t' s _ _ ⟨.int (g i j),H,I.tok _,⟨_,rfl⟩,q⟩
theorem dC3{f:Value->Value->Sem Value}{g:Int->Int->Bool}
  (rule:∀ (i j:Int) (t u:Tok) (s:Shared) (Q:Value->Shared->Prop) (E:Value->Shared->Prop),Q (.bool (g i j)) s->wpAny (model X.prog X.w) X.A (f (.int i t) (.int j u)) Q E s) :
  OpR X f (rI0 fun i j=>.bl (g i j)):=by
 intro pins s σ H x y v u Q I rx ry h
 obtain⟨i,j,rfl,rfl,q⟩:=h
 obtain⟨t,rfl⟩:=rx
 obtain⟨t',rfl⟩:=ry
 exact rule i j t t' s _ _ ⟨.bl (g i j),H,I,rfl,q⟩
def cS3(i j:Int):Prop:=0 < j/\j < 1073741824
def cP4(i j:Int):Prop:=0<=j/\j<=1000000/\i.natAbs < 2 ^ 64
def bP0(i j:Int):Prop:=(-(2 ^ 64) < i/\i < 2 ^ 64)\/(-(2 ^ 64) < j/\j < 2 ^ 64)
theorem bP0.ok{i j:Int}(h:bP0 i j):IntMulOk i j:=by
 rcases h with⟨h1,h2⟩ | ⟨h1,h2⟩
 ·exact .of_left (intBits_le_64 h1 h2)
 ·exact .of_right (intBits_le_64 h1 h2)
theorem cS4:OpR X (binaryOp .Add) (rI0 fun i j=>.int (i+j)):=dJ1 fun _ _ _ _ _ _ _ q=>add_int q
theorem cS5:OpR X (binaryOp .Sub) (rI0 fun i j=>.int (i-j)):=dJ1 fun _ _ _ _ _ _ _ q=>sub_int q
theorem cS6:OpR X (binaryOp .Mult) (rI bP0 fun i j=>.int (i*j)):=opI fun _ _ _ _ _ _ _ hc q=>mul_int q hc.ok
theorem aS0:OpR X (binaryOp .FloorDiv) (rI cS3 fun i j=>.int (i / j)):=opI fun i j _ _ _ _ _ hc q=>by
 have h1:(0:Int) < j:=hc.1
 have h2:j < 1073741824:=hc.2
 exact floordiv_int (by omega) (by rw[Int.fdiv_eq_ediv_of_nonneg i (by omega)];exact q) (.inl (PyProof.noPylong_small (by omega)))
theorem fV:OpR X (binaryOp .Mod) (rI (fun _ j=>0 < j) fun i j=>.int (i % j)):=opI fun i j _ _ _ _ _ hc q=>by
 have h1:(0:Int) < j:=hc
 exact mod_int' (by omega) (by rw[Int.fmod_eq_emod_of_nonneg i (by omega)];exact q)
theorem cS7:OpR X (binaryOp .Pow) (rI cP4 fun i j=>.int (i ^ j.toNat)):=opI fun _ _ _ _ _ _ _ hc q=>pow_int_small hc.1 hc.2.1 hc.2.2 q
theorem unI{f:Value->Sem Value}{g:Int->Int}
  (rule:∀ (i:Int) (t:Tok) (s:Shared) (Q:Value->Shared->Prop) (E:Value->Shared->Prop),Q (.int (g i) s.toks) {s with toks:=s.toks+1}->wpAny (model X.prog X.w) X.A (f (.int i t)) Q E s) :
  UnR X f (rU fun i=>.int (g i)):=by
 intro pins s σ H x v Q I rx h
 obtain⟨i,rfl,q⟩:=h
 obtain⟨t,rfl⟩:=rx
 exact rule i t s _ _ ⟨.int (g i),H,I.tok _,⟨_,rfl⟩,q⟩
theorem cA5:UnR X (unaryOp .USub) (rU fun i=>.int (-i)):=unI fun _ _ _ _ _ q=>neg_int q
end
def cF6:V->V->Bool
 | .non,.non=>true | .non,.int _=>true | .int _,.non=>true | .non,.bl _=>true | .bl _,.non=>true | .non,.str _=>true | .str _,.non=>true
 | .int _,.int _=>true | .bl _,.bl _=>true | .str _,.str _=>true | .byt _,.byt _=>true
 | .int _,.str _=>true | .str _,.int _=>true | .bl _,.str _=>true | .str _,.bl _=>true
 | _,_=>false
def rEq:R2:=fun x y H Q=>cF6 x y=true/\Q (.bl (decide (x=y))) H
def rNe:R2:=fun x y H Q=>cF6 x y=true/\Q (.bl (!decide (x=y))) H
theorem aS1{i j:Int}:decide (V.int i=V.int j)=(i==j):=by
 rw[Bool.eq_iff_iff]
 simp
theorem cA6{i j:Bool}:decide (V.bl i=V.bl j)=(i==j):=by
 rw[Bool.eq_iff_iff]
 simp
theorem aS2{i j:Str}:decide (V.str i=V.str j)=(i==j):=by
 rw[Bool.eq_iff_iff]
 simp
theorem aS3{i j:Array UInt8}:decide (V.byt i=V.byt j)=(i.toList==j.toList):=by
 rw[Bool.eq_iff_iff]
 cases i
 cases j
 simp
section
variable{X:Cx}{a b c:Expr}{ta tb tc:TE}{pos:Pos}
theorem bI{pins:List (Addr×Obj)}{σ:St}{H:Hp}{s:Shared}{Q:VK}{k k':Bool}(I:Inv X pins σ H s)(q:Q (.bl k) H)(e:k=k'):EP X pins σ Q (.bool k') s:=by
 subst e
 exact⟨.bl k,H,I,rfl,q⟩
theorem dE8:OpR X (compareOp .Eq) rEq:=by
 intro pins s σ H x y v u Q I rx ry h
 obtain⟨hs,q⟩:=h
 cases x with
 | non=>
   cases rx
   cases y with
   | non=>cases ry;exact PySem.EqNone.eq_none_none (bI I q (by simp))
   | bl j=>cases ry;exact PySem.EqNone.eq_none_bool (bI I q (by simp))
   | int j=>obtain⟨t',rfl⟩:=ry;exact PySem.EqNone.eq_none_int (bI I q (by simp))
   | str j=>obtain⟨t',rfl⟩:=ry;exact PySem.EqNone.eq_none_str (bI I q (by simp))
   | _=>exact absurd (show false=true from hs) Bool.false_ne_true
 | bl i=>
   cases rx
   cases y with
   | non=>cases ry;exact PySem.EqNone.eq_bool_none (bI I q (by simp))
   | bl j=>cases ry;exact eq_bool (bI I q cA6)
   | str j=>obtain⟨t',rfl⟩:=ry;exact PySem.EqMixed.eq_bool_str (bI I q (by simp))
   | _=>exact absurd (show false=true from hs) Bool.false_ne_true
 | int i=>
   obtain⟨t,rfl⟩:=rx
   cases y with
   | non=>cases ry;exact PySem.EqNone.eq_int_none (bI I q (by simp))
   | int j=>obtain⟨t',rfl⟩:=ry;exact eq_int (bI I q aS1)
   | str j=>obtain⟨t',rfl⟩:=ry;exact PySem.EqMixed.eq_int_str (bI I q (by simp))
   | _=>exact absurd (show false=true from hs) Bool.false_ne_true
 | str i=>
   obtain⟨t,rfl⟩:=rx
   cases y with
   | non=>cases ry;exact PySem.EqNone.eq_str_none (bI I q (by simp))
   | bl j=>cases ry;exact PySem.EqMixed.eq_str_bool (bI I q (by simp))
   | int j=>obtain⟨t',rfl⟩:=ry;exact PySem.EqMixed.eq_str_int (bI I q (by simp))
   | str j=>obtain⟨t',rfl⟩:=ry;exact eq_str (bI I q aS2)
   | _=>exact absurd (show false=true from hs) Bool.false_ne_true
 | byt i=>
   obtain⟨t,rfl⟩:=rx
   cases y with
   | byt j=>obtain⟨t',rfl⟩:=ry;exact PySem.W.eq_bytes (bI I q aS3)
   | _=>exact absurd (show false=true from hs) Bool.false_ne_true
 | _=>cases y<;>exact absurd (show false=true from hs) Bool.false_ne_true
theorem dE9:OpR X (compareOp .NotEq) rNe:=by
 intro pins s σ H x y v u Q I rx ry h
 obtain⟨hs,q⟩:=h
 cases x with
 | non=>
   cases rx
   cases y with
   | non=>cases ry;exact PySem.EqNone.ne_none_none (bI I q (by simp))
   | bl j=>cases ry;exact PySem.EqNone.ne_none_bool (bI I q (by simp))
   | int j=>obtain⟨t',rfl⟩:=ry;exact PySem.EqNone.ne_none_int (bI I q (by simp))
   | str j=>obtain⟨t',rfl⟩:=ry;exact PySem.EqNone.ne_none_str (bI I q (by simp))
   | _=>exact absurd (show false=true from hs) Bool.false_ne_true
 | bl i=>
   cases rx
   cases y with
   | non=>cases ry;exact PySem.EqNone.ne_bool_none (bI I q (by simp))
   | bl j=>cases ry;exact ne_bool (bI I q (congrArg not cA6))
   | str j=>obtain⟨t',rfl⟩:=ry;exact PySem.EqMixed.ne_bool_str (bI I q (by simp))
   | _=>exact absurd (show false=true from hs) Bool.false_ne_true
 | int i=>
   obtain⟨t,rfl⟩:=rx
   cases y with
   | non=>cases ry;exact PySem.EqNone.ne_int_none (bI I q (by simp))
   | int j=>obtain⟨t',rfl⟩:=ry;exact ne_int (bI I q (congrArg not aS1))
   | str j=>obtain⟨t',rfl⟩:=ry;exact PySem.EqMixed.ne_int_str (bI I q (by simp))
   | _=>exact absurd (show false=true from hs) Bool.false_ne_true
 | str i=>
   obtain⟨t,rfl⟩:=rx
   cases y with
   | non=>cases ry;exact PySem.EqNone.ne_str_none (bI I q (by simp))
   | bl j=>cases ry;exact PySem.EqMixed.ne_str_bool (bI I q (by simp))
   | int j=>obtain⟨t',rfl⟩:=ry;exact PySem.EqMixed.ne_str_int (bI I q (by simp))
   | str j=>obtain⟨t',rfl⟩:=ry;exact ne_str (bI I q (congrArg not aS2))
   | _=>exact absurd (show false=true from hs) Bool.false_ne_true
 | byt i=>
   obtain⟨t,rfl⟩:=rx
   cases y with
   | byt j=>obtain⟨t',rfl⟩:=ry;exact PySem.W.ne_bytes (bI I q (congrArg not aS3))
   | _=>exact absurd (show false=true from hs) Bool.false_ne_true
 | _=>cases y<;>exact absurd (show false=true from hs) Bool.false_ne_true
theorem aS4:OpR X (compareOp .Lt) (rI0 fun i j=>.bl (decide (i < j))):=dC3 fun _ _ _ _ _ _ _ q=>lt_int q
theorem aS5:OpR X (compareOp .LtE) (rI0 fun i j=>.bl (decide (i<=j))):=dC3 fun _ _ _ _ _ _ _ q=>le_int q
theorem pI:OpR X (compareOp .Gt) (rI0 fun i j=>.bl (decide (j < i))):=dC3 fun _ _ _ _ _ _ _ q=>gt_int q
theorem dF0:OpR X (compareOp .GtE) (rI0 fun i j=>.bl (decide (j<=i))):=dC3 fun _ _ _ _ _ _ _ q=>ge_int q
theorem xH:OpR X (compareOp .In) (fun x y H Q=>∃ i j,x=.str i/\y=.str j/\Q (.bl (!(Builtin.Str.occurrences j i 0 j.length 1).isEmpty)) H):=by
 intro pins s σ H x y v u Q I rx ry h
 obtain⟨i,j,rfl,rfl,q⟩:=h
 obtain⟨t,rfl⟩:=rx
 obtain⟨t',rfl⟩:=ry
 exact in_str (bI I q rfl)
theorem cS8:OpR X (compareOp .Is) (fun x y H Q=>y=.non/\Q (.bl (decide (x=.non))) H):=by
 intro pins s σ H x y v u Q I rx ry h
 obtain⟨rfl,q⟩:=h
 cases ry
 refine is_none_gen (bI I q ?_)
 cases x<;>first
  | (cases rx;rfl)
  | (obtain⟨t,rfl⟩:=rx;rfl)
theorem xI:OpR X (compareOp .NotIn) (fun x y H Q=>∃ i j,x=.str i/\y=.str j/\Q (.bl (!(!(Builtin.Str.occurrences j i 0 j.length 1).isEmpty))) H):=by
 intro pins s σ H x y v u Q I rx ry h
 obtain⟨i,j,rfl,rfl,q⟩:=h
 obtain⟨t,rfl⟩:=rx
 obtain⟨t',rfl⟩:=ry
 exact notIn_str (bI I q rfl)
theorem OpR.or{f:Value->Value->Sem Value}{r r':R2}(h:OpR X f r)(h':OpR X f r'):OpR X f (fun x y H Q=>r x y H Q\/r' x y H Q):=by
 intro pins s σ H x y v u Q I rx ry q
 rcases q with q | q
 ·exact h pins s σ H x y v u Q I rx ry q
 ·exact h' pins s σ H x y v u Q I rx ry q
theorem bC(b:Expr){op:CmpOp}(h:op≠.In:=by decide)(h2:op≠.NotIn:=by decide):behindInMarks op b=false:=by
 have e1:(op==CmpOp.In)=false:=by cases op<;>first | rfl | exact absurd rfl h
 have e2:(op==CmpOp.NotIn)=false:=by cases op<;>first | rfl | exact absurd rfl h2
 cases b<;>simp[behindInMarks,e1,e2]
theorem cF7{op:CmpOp}{r:R2}(ho:OpR X (compareOp op) r)(ha:PE X a ta)(hb:PE X b tb)(hm:behindInMarks op b=false):PE X (.Compare a [op] [b] pos) (tOp r ta tb):=by
 intro pins s σ H Q I h
 exact wpAny_Compare1 (dE6 ha hb I h fun v u s2 x y H2 I2 rx ry q=>ho pins s2 σ H2 x y v u Q I2 rx ry q) hm
def cF8(t:TE):TT:=fun σ H Q=>t σ H fun x H'=>∃ k,x=.bl k/\Q k H'
theorem cN{op:CmpOp}{r:R2}(ho:OpR X (compareOp op) r)(ha:PE X a ta)(hb:PE X b tb)(hm:behindInMarks op b=false):PT X (.Compare a [op] [b] pos) (cF8 (tOp r ta tb)):=by
 intro pins s σ H Q I h
 refine wpAny_isTrue_Compare1 (thn (ha pins s σ H _ I h) fun v s1 ⟨x,H1,I1,r1,q1⟩=>thn (hb pins s1 σ H1 _ I1 q1) fun u s2 ⟨y,H2,I2,r2,q2⟩=>
  thn (ho pins s2 σ H2 x y v u _ I2 r1 r2 q2) fun c s3 ⟨z,H3,I3,r3,k,e,q3⟩=>?_) hm
 subst e
 cases r3
 exact wpAny_truthy_bool ⟨H3,I3,q3⟩
def aG7(r r':R2)(ta tb tc:TE):TE:=fun σ H Q=>ta σ H fun x H1=>tb σ H1 fun y H2=>r x y H2 fun z H3=>∃ k,z=.bl k /\
 (if k=true then tc σ H3 fun w' H4=>r' y w' H4 Q else Q (.bl false) H3)
theorem bP1{op op':CmpOp}{r r':R2}(ho:OpR X (compareOp op) r)(ho':OpR X (compareOp op') r')(ha:PE X a ta)(hb:PE X b tb)(hc:PE X c tc)
  (hm:lastMarks [op,op'] [b,c]=false:=by with_unfolding_all rfl):PE X (.Compare a [op,op'] [b,c] pos) (aG7 r r' ta tb tc):=by
 intro pins s σ H Q I h
 refine Compare_chain (thn (ha pins s σ H _ I h) fun v s1 ⟨x,H1,I1,r1,q1⟩=>chain_link (thn (hb pins s1 σ H1 _ I1 q1) fun u s2 ⟨y,H2,I2,r2,q2⟩=>
  thn (ho pins s2 σ H2 x y v u _ I2 r1 r2 q2) fun d s3 ⟨z,H3,I3,r3,k,e,q3⟩=>?_)) hm
 subst e
 cases r3
 refine wpAny_truthy_bool ?_
 cases k with
 | false=>exact ite_ff ⟨.bl false,H3,I3,rfl,q3⟩
 | true=>exact ite_tt (chain_last (thn (hc pins s3 σ H3 _ I3 q3) fun w' s4 ⟨z',H4,I4,r4,q4⟩=>ho' pins s4 σ H4 y z' u w' Q I4 r2 r4 q4))
theorem bP2{op op':CmpOp}{r r':R2}(ho:OpR X (compareOp op) r)(ho':OpR X (compareOp op') r')(ha:PE X a ta)(hb:PE X b tb)(hc:PE X c tc)
  (hm:lastMarks [op,op'] [b,c]=false:=by with_unfolding_all rfl):PT X (.Compare a [op,op'] [b,c] pos) (cF8 (aG7 r r' ta tb tc)):=by
 intro pins s σ H Q I h
 refine isTrue_chain (thn (ha pins s σ H _ I h) fun v s1 ⟨x,H1,I1,r1,q1⟩=>test_link (thn (hb pins s1 σ H1 _ I1 q1) fun u s2 ⟨y,H2,I2,r2,q2⟩=>
  thn (ho pins s2 σ H2 x y v u _ I2 r1 r2 q2) fun d s3 ⟨z,H3,I3,r3,k,e,q3⟩=>?_)) hm
 subst e
 cases r3
 refine wpAny_truthy_bool ?_
 cases k with
 | false=>
   obtain⟨k',e',q'⟩:=q3
   cases e'
   exact ite_ff ⟨H3,I3,q'⟩
 | true=>
   refine ite_tt (test_last (thn (hc pins s3 σ H3 _ I3 q3) fun w' s4 ⟨z',H4,I4,r4,q4⟩=>thn (ho' pins s4 σ H4 y z' u w' _ I4 r2 r4 q4) fun d' s5 ⟨z2,H5,I5,r5,k2,e2,q5⟩=>?_))
   subst e2
   cases r5
   exact wpAny_truthy_bool ⟨H5,I5,q5⟩
theorem qT:(sizeLine:Nat) < 2 ^ 63:=by rw[sizeLine_eq];decide
theorem aM3:OpR X (binaryOp .Add) (fun x y H Q=>∃ i j,x=.str i/\y=.str j/\i.length+j.length<=sizeLine/\Q (.str (i++j)) H):=by
 intro pins s σ H x y v u Q I rx ry h
 obtain⟨i,j,rfl,rfl,hz,q⟩:=h
 obtain⟨t,rfl⟩:=rx
 obtain⟨t',rfl⟩:=ry
 exact add_str (fun t' tk=>⟨.str (i++j),H,I.tok _,⟨_,rfl⟩,q⟩) hz
theorem zL{x:V}{us:List Value}(r:cF [x] us):∃ u,us=[u]/\eG x u:=by
 cases r with
 | cons r1 r2=>cases r2;exact⟨_,rfl,r1⟩
theorem bP3{x y:V}{us:List Value}(r:cF [x,y] us):∃ u w',us=[u,w']/\eG x u/\eG y w':=by
 cases r with
 | cons r1 r2=>
   cases r2 with
   | cons r3 r4=>cases r4;exact⟨_,_,rfl,r1,r3⟩
theorem qU(hc:X.calm=true):kW X (.builtin "min") (fun xs H Q=>∃ i j,xs=[.int i,.int j]/\Q (.int (if j < i then j else i)) H):=by
 intro pins s σ H xs us Q I r h
 obtain⟨i,j,rfl,q⟩:=h
 obtain⟨u,w',rfl,⟨t,rfl⟩,⟨t',rfl⟩⟩:=bP3 r
 refine min_two_ints (I.ok.hd hc) fun h' tk k=>⟨_,H,I.kept k,?_,q⟩
 by_cases hj:j < i
 ·rw[if_pos hj,if_pos hj];exact⟨_,rfl⟩
 ·rw[if_neg hj,if_neg hj];exact⟨_,rfl⟩
theorem qV:kW X (.type "int") (fun xs H Q=>(∃ i,xs=[.int i]/\Q (.int i) H)\/∃ k,xs=[.bl k]/\Q (.int (if k then 1 else 0)) H):=by
 intro pins s σ H xs us Q I r h
 rcases h with⟨i,rfl,q⟩ | ⟨k,rfl,q⟩
 ·obtain⟨u,rfl,t,rfl⟩:=zL r
  exact call_int_int ⟨.int i,H,I,⟨_,rfl⟩,q⟩
 ·obtain⟨u,rfl,r1⟩:=zL r
  cases r1
  exact call_int_bool ⟨.int (if k then 1 else 0),H,I.tok _,⟨_,rfl⟩,q⟩
end
end L2
namespace L2
open PySem PySem.Spec PyProof.Rows
structure ObjM(h:Heap)(x dx C:Addr)(mA:Str->Option Value):Prop where
 obj:h.get? x=some (PySem.W.instObj C dx)
 ns:h.Ns1 dx mA
 ne:dx≠x
theorem aS6{h:Heap}{dx:Addr}{mA:Str->Option Value}(n:h.Ns1 dx mA):∃ od,h.get? dx=some od/\∀ name,PySem.W.lookIn name od=some (mA name):=by
 obtain⟨o,es,ep,ho,hd,hk,_,hm⟩:=n
 refine⟨o,ho,fun name=>?_⟩
 have e:=hm name
 unfold nsFind findBy at e
 rw[← Array.find?_toList]at e
 unfold PySem.W.lookIn
 rw[hd]
 dsimp only
 split
 ·rename_i y q
  rw[q]at e
  exact congrArg some e
 ·rename_i q
  rw[q]at e
  have a:es.toList.any (·.refKey)=false:=by
   rw[List.any_eq_false]
   intro y hy
   obtain⟨z,t,hkey⟩:=hk y (Array.mem_toList_iff.mp hy)
   simp[DictEntry.refKey,hkey]
  have a':¬ es.toList.any (·.refKey)=true:=by rw[a];exact Bool.false_ne_true
  rw[if_neg a']
  exact congrArg some e
theorem ObjM.look{h:Heap}{x dx C:Addr}{mA:Str->Option Value}(I:ObjM h x dx C mA):∃ od,PySem.W.InstAt h x (PySem.W.instObj C dx) C (some od)/\∀ name,PySem.W.lookIn name od=some (mA name):=
 let ⟨od,ho,hl⟩:=aS6 I.ns
 ⟨od,⟨I.obj,rfl,rfl,ho⟩,hl⟩
section
variable{prog:Program}{w:World}{A:Around}{E:Value->Shared->Prop}{s:Shared}{K:PySem.W.Frag}{x dx C f:Addr}{mA:Str->Option Value}{name:Str}{v:Value}
end
section
variable{P:Program}{w:World}{H H':Hp}{h h':Heap}{a C dx:Addr}{fs fs':List (Str×V)}
theorem cF9(hok:HOk P w H h)(e:H a=some (.ins C dx fs)):∃ mA,ObjM h a dx C mA/\(∀ f,dE0 (fs.lookup f) (mA f))/\PySem.Within mA (fs.map (·.1))/\fs.length<=1000/\H dx=some (.own a):=by
 obtain⟨d,z,ne,ob,mA,n,r,q⟩:=(show dM P w H h a (.ins C dx fs)from hok a _ e)
 exact⟨mA,⟨ob,n,ne⟩,r,q,z,d⟩
end
structure Cls(K:PySem.W.Frag)(C:Addr):Prop where
 pg:PySem.W.plainGet K C Str.empty=true
 hd:PySem.W.hasDictIn K C=true
 po:PySem.W.plainOver K C=true
 sa:PySem.W.findIn K (.ref C) "__setattr__"=some (some (.builtin "object.__setattr__"))
theorem Cls.get{K:PySem.W.Frag}{C:Addr}(c:Cls K C)(f:Str):PySem.W.plainGet K C f=true:=c.pg
section
variable{X:Cx}{pins:List (Addr×Obj)}{σ:St}{H:Hp}{s:Shared}{a C dx:Addr}{fs:List (Str×V)}{f:Str}{v:V}{A:Around}{E:Value->Shared->Prop}
theorem cG0{prog:Program}{w:World}{env:Env}{e:Expr}{f:Str}{pos:Pos}{s:Shared}{Q:Value->Shared->Prop}(hb:attributeBase e f env (eval e env)=eval e env)
  (h:wpAny (model prog w) A (eval e env) (fun o s₁=>wpAny (model prog w) A (getAttr o f true) Q E s₁) E s):wpAny (model prog w) A (eval (.Attribute e f pos) env) Q E s:=
 Attribute_any_ h (by rw[arm_eval_Attribute,hb])
end
section
variable{X:Cx}{o e value:Expr}{f:Str}{pos pos' tpos:Pos}{ta tv:TE}
end
section
variable{X:Cx}{pins:List (Addr×Obj)}{σ:St}{H:Hp}{s:Shared}{A:Around}{E:Value->Shared->Prop}{Q:Value->Shared->Prop}{c:Value}{b:Bool}
inductive TyOf(K:PySem.W.Frag)(H:Hp):V->Value->Prop where
 | non:TyOf K H .non (.type "NoneType")
 | bl (x:Bool):TyOf K H (.bl x) (.type "bool")
 | int (i:Int):TyOf K H (.int i) (.type "int")
 | str (x:Str):TyOf K H (.str x) (.type "str")
 | flt (x:UInt64):TyOf K H (.flt x) (.type "float")
 | lst {a:Addr} {xs:List V} (e:H a=some (.lst xs)):TyOf K H (.ref a) (.type "list")
 | frz {a:Addr} {o:Obj} {xs:List V} (e:H a=some (.frz o (.lst xs))):TyOf K H (.ref a) (.type "list")
 | tup {a:Addr} {xs:List V} (e:H a=some (.tup xs)):TyOf K H (.ref a) (.type "tuple")
 | dK {a:Addr} {kvs:List (Key×V)} (e:H a=some (.dK kvs)):TyOf K H (.ref a) (.type "dict")
 | dT {a:Addr} {kvs:List (List Key×V)} (e:H a=some (.dT kvs)):TyOf K H (.ref a) (.type "dict")
 | ins {a C dx:Addr} {fs:List (Str×V)} (e:H a=some (.ins C dx fs)) (cl:Cls K C) (ha:PySem.W.findIn K (.ref C) "__class__"=some (some (.builtin "object.__class__")))
   (hn:PySem.W.specialIn K (.builtin "object.__class__") "__get__"=some (some (.builtin "getset_descriptor.__get__"))) (htk:PySem.W.takesIn K (.builtin "object.__class__")=some true)
   (hm:PySem.W.mroIn K C (.type "object")=some true):TyOf K H (.ref a) (.ref C)
theorem aS7{x:V}{u t:Value}(I:Inv X pins σ H s)(rx:eG x u)(ty:TyOf X.K H x t)(e:PySem.W.kitOne X.K t c=some b)(h:∀ tk,Q (.bool b) {s with toks:=tk}) :
  wpAny (model X.prog X.w) A (call (.builtin "isinstance") [u,c]) Q E s:=by
 cases ty with
 | non=>cases (show u=Value.none from rx);exact PySem.W.kia_one PySem.W.kitx_none I.kIn True.intro e (fun z=>nomatch z) h
 | bl y=>cases (show u=Value.bool y from rx);exact PySem.W.kia_one PySem.W.kitx_bool I.kIn True.intro e (fun z=>nomatch z) h
 | int i=>obtain⟨t,q⟩:=(show ∃ t,u=Value.int i t from rx);cases q;exact PySem.W.kia_one PySem.W.kitx_int I.kIn True.intro e (fun z=>nomatch z) h
 | str y=>obtain⟨t,q⟩:=(show ∃ t,u=Value.str y t from rx);cases q;exact PySem.W.kia_one PySem.W.kitx_str I.kIn True.intro e (fun z=>nomatch z) h
 | flt y=>obtain⟨t,q⟩:=(show ∃ t,u=Value.float y t from rx);cases q;exact PySem.W.kia_one PySem.W.kitx_float I.kIn True.intro e (fun z=>nomatch z) h
 | @lst a xs ea=>
   cases (show u=Value.ref a from rx)
   obtain⟨_,_,n,_,h1⟩:=(show dM X.prog X.w H s.heap a (.lst xs)from I.hok a _ ea)
   exact PySem.W.kia_one PySem.W.kitx_list I.kIn ⟨_,h1,rfl⟩ e (fun z=>nomatch z) h
 | @frz a ob xs ea=>
   cases (show u=Value.ref a from rx)
   obtain⟨_,_,_,n,_,h1⟩:=(show dM X.prog X.w H s.heap a (.frz ob (.lst xs))from I.hok a _ ea)
   exact PySem.W.kia_one PySem.W.kitx_list I.kIn ⟨_,h1,rfl⟩ e (fun z=>nomatch z) h
 | @tup a xs ea=>
   cases (show u=Value.ref a from rx)
   obtain⟨_,_,_,p,_⟩:=(show dM X.prog X.w H s.heap a (.tup xs)from I.hok a _ ea)
   obtain⟨o,h1,h2,_⟩:=p
   exact PySem.W.kia_one PySem.W.kitx_tuple I.kIn ⟨o,h1,h2⟩ e (fun z=>nomatch z) h
 | @dK a kvs ea=>
   cases (show u=Value.ref a from rx)
   obtain⟨_,_,vs,_,p⟩:=(show dM X.prog X.w H s.heap a (.dK kvs)from I.hok a _ ea)
   obtain⟨o,es,ep,h1,h2,_⟩:=p
   exact PySem.W.kia_one PySem.W.kitx_dict I.kIn ⟨o,h1,h2.1⟩ e (fun z=>nomatch z) h
 | @dT a kvs ea=>
   cases (show u=Value.ref a from rx)
   obtain⟨_,_,xs,_,o,es,ep,h1,h2,_⟩:=(show dM X.prog X.w H s.heap a (.dT kvs)from I.hok a _ ea)
   exact PySem.W.kia_one PySem.W.kitx_dict I.kIn ⟨o,h1,h2.1⟩ e (fun z=>nomatch z) h
 | @ins a C dx fs ea cl ha hn htk hm=>
   cases (show u=Value.ref a from rx)
   obtain⟨mA,O,_⟩:=cF9 I.hok ea
   obtain⟨od,J,_⟩:=O.look
   exact PySem.W.kia_one (PySem.W.kitx_own (cl.get _) cl.hd ha hn htk hm) I.kIn J e (fun z=>nomatch z) h
end
end L2
namespace L2
open PySem PySem.Spec PyProof.Rows
structure Room(k:Nat)(A:Around):Prop where
 hd:A.handled=none
 dp:A.depth+3*k+5 < recursionLimit
 un:A.units+16*k+200 < cLine
theorem Room.mono{j k:Nat}{A:Around}(r:Room k A)(h:j<=k):Room j A:=⟨r.hd,by have:=r.dp;omega,by have:=r.un;omega⟩
theorem Room.deeper{k:Nat}{A:Around}(r:Room (k+1) A)(env:Env):Room k (A.deeper env):=
 ⟨r.hd,by have:=r.dp;show A.depth+1+3*k+5 < _;omega,by have:=r.un;show A.units+3+16*k+200 < _;omega⟩
theorem aM4{A:Around}{C:Addr}{us:List Value}{kw:List (Str×Value)}:(A.under (.builtin "type.__call__" ⟨.ref C::us,kw⟩)).depth=A.depth+1:=by
 first | rfl | simp[Around.under,Code.weight,Code.isCreation,Code.isGuard,Code.isCaller,Code.frames,Code.isFrame,guardIds]
theorem aM5{A:Around}{C:Addr}{us:List Value}{kw:List (Str×Value)}:(A.under (.builtin "type.__call__" ⟨.ref C::us,kw⟩)).units=A.units+1:=by
 first | rfl | simp[Around.under,Code.cUnits,Code.frames,Code.isFrame]
theorem Room.make{k:Nat}{A:Around}(r:Room (k+1) A)(C:Addr)(us:List Value)(kw:List (Str×Value)):Room k (A.under (.builtin "type.__call__" ⟨.ref C::us,kw⟩)):=
 ⟨r.hd,by have:=r.dp;rw[aM4];omega,by have:=r.un;rw[aM5];omega⟩
theorem Room.depth{k:Nat}{A:Around}(r:Room k A):A.depth < recursionLimit:=by have:=r.dp;omega
theorem Room.units{k:Nat}{A:Around}(r:Room k A):A.units+64 < cLine:=by have:=r.un;omega
theorem Room.units0{k:Nat}{A:Around}(r:Room k A):A.units < cLine:=by have:=r.un;omega
def cA7:TA:=fun _ H Q=>Q [] H
def lL(ta:TE)(tr:TA):TA:=fun σ H Q=>ta σ H fun x H1=>tr σ H1 fun xs H2=>Q (x::xs) H2
section
variable{X:Cx}{e:Expr}{es:List Expr}{te:TE}{t:TA}{pos:Pos}
theorem aN:PA X [] cA7:=fun _ _ _ _ H Q I h=>Calls.spliced_nil ⟨[],H,I,.nil,h⟩
theorem aD(ha:PE X e te)(hr:PA X es t)(hs:starEach (e::es) X.env=(false,eval e X.env)::starEach es X.env:=by rfl):PA X (e::es) (lL te t):=by
 intro pos pins s σ H Q I h
 rw[hs]
 show wpAny _ _ (spliced ((false,eval e X.env)::backTo pos (starEach es X.env))) _ _ s
 refine Calls.spliced_cons (thn (ha pins s σ H _ I h) fun u s1 ⟨x,H1,I1,r1,q1⟩=>?_)
 exact thn (hr pos pins s1 σ H1 _ I1 q1) fun us s2 ⟨xs,H2,I2,r2,q2⟩=>⟨x::xs,H2,I2,.cons r1 r2,q2⟩
def dC4(t:TA):TE:=fun σ H Q=>t σ H fun xs H1=>xs.length<=sizeLine/\∀ p,H1 p=none->Q (.ref p) (upd H1 p (.tup xs))
def dJ2(t:TA):TE:=fun σ H Q=>t σ H fun xs H1=>xs.length<=sizeLine/\∀ p,H1 p=none->Q (.ref p) (upd H1 p (.lst xs))
theorem aS8{x1}(h:PA X es t):PE X (.Tuple es x1 pos) (dC4 t):=by
 intro pins s σ H Q I hq
 refine wpAny_Tuple_spliced (thn (h pos pins s σ H _ I hq) fun us s1 ⟨xs,H1,I1,r,z,q⟩=>⟨by rw[← r.length];exact z,?_⟩)
 have hf:H1 s1.heap.objs.size=none:=I1.hok.fresh (Nat.le_refl _)
 refine⟨.ref s1.heap.objs.size,upd H1 s1.heap.objs.size (.tup xs),I1.laid (t':=s1.toks) (fun b u e=>Heap.get?_push_of_some _ e) (Nat.le_refl _) ?_,rfl,q _ hf⟩
 exact⟨z,us,r,⟨_,Heap.get?_push_size _ rfl,rfl,_,rfl⟩,⟨_,Heap.get?_push_size _ rfl,rfl⟩⟩
theorem oO(h:PA X es t):PE X (.List es pos) (dJ2 t):=by
 intro pins s σ H Q I hq
 refine wpAny_List_spliced (thn (h pos pins s σ H _ I hq) fun us s1 ⟨xs,H1,I1,r,z,q⟩=>⟨by rw[← r.length];exact z,?_⟩)
 have hf:H1 s1.heap.objs.size=none:=I1.hok.fresh (Nat.le_refl _)
 refine⟨.ref s1.heap.objs.size,upd H1 s1.heap.objs.size (.lst xs),I1.laid (t':=s1.toks) (fun b u e=>Heap.get?_push_of_some _ e) (Nat.le_refl _) ?_,rfl,q _ hf⟩
 exact⟨z,us,0,r,Heap.get?_push_size _ rfl⟩
end
abbrev Sp:=List V->Hp->VK->XK->Prop
abbrev CXT:=List Env->Hp->Shared->XK->Value->Shared->Prop
structure Env0(P:Program)(w:World)(K:PySem.W.Frag)(mg:Str->Option Value)(base:Heap)(A:Around)(outer:List Env)(s:Shared)(H:Hp):Prop where
 frames:A.frames=some outer
 mod:Mod K mg base
 bs:∀ b o,base.get? b=some o->s.heap.get? b=some o/\H b=none
 bsz:base.objs.size<=s.heap.objs.size
 funs:s.heap.FunFrames base outer
 frf:∀ b∈frs outer,H b=none
 hok:HOk P w H s.heap
 bare:AllBare s.gens
def CE(outer:List Env)(P:Program)(w:World)(H:Hp)(s:Shared)(Q:VK)(u:Value)(s':Shared):Prop:=
 ∃ v H',s'.os=s.os/\AllBare s'.gens/\Un (frs outer) [] H H' s.heap s'.heap/\HOk P w H' s'.heap/\eG v u/\Q v H'
def CR(CX:CXT)(outer:List Env)(P:Program)(w:World)(H:Hp)(s:Shared)(Q:VK)(E:XK)(r:Result)(s':Shared):Prop:=
 match r with
 | .ok (.ret u)=>CE outer P w H s Q u s'
 | .ok _=>False
 | .error e=>CX outer H s E e s'
structure FnOk(P:Program)(w:World)(K:PySem.W.Frag)(mg:Str->Option Value)(base:Heap)(CX:CXT)(k:Nat)(f:Addr)(fd:FuncData)(ps:List Str)(sp:Sp):Prop where
 len:∀ vs H Q E,sp vs H Q E->vs.length=ps.length
 run:∀ (A:Around) (outer:List Env) (s:Shared) (H:Hp) (args:Args) (us:List Value) (vs:List V) (Q:VK) (E:XK),Room k A->Env0 P w K mg base A outer s H->BindsTo s fd args (ps.zip us)->cF vs us->sp vs H Q E ->
  codeAny (model P w) A (.call (.ref f) args) (CR CX outer P w H s Q E) s
theorem FnOk.imp{P:Program}{w:World}{K:PySem.W.Frag}{mg:Str->Option Value}{base:Heap}{CX:CXT}{k:Nat}{f:Addr}{fd:FuncData}{ps:List Str}{sp sp':Sp}(F:FnOk P w K mg base CX k f fd ps sp)
  (h:∀ vs H Q E,sp' vs H Q E->sp vs H Q E):FnOk P w K mg base CX k f fd ps sp':=
 ⟨fun vs H Q E q=>F.len vs H Q E (h _ _ _ _ q),fun A outer s H args us vs Q E hr he hb hv hs=>F.run A outer s H args us vs Q E hr he hb hv (h _ _ _ _ hs)⟩
theorem Env0.make{P:Program}{w:World}{K:PySem.W.Frag}{mg:Str->Option Value}{base:Heap}{A:Around}{outer:List Env}{s:Shared}{H:Hp}(e:Env0 P w K mg base A outer s H)(C:Addr)(us:List Value)(kw:List (Str×Value)) :
  Env0 P w K mg base (A.under (.builtin "type.__call__" ⟨.ref C::us,kw⟩)) outer s H:=⟨by first | exact e.frames | (simpa[Around.under,Code.envs,Code.isFrame,pushEnvs]using e.frames),e.mod,e.bs,e.bsz,e.funs,e.frf,e.hok,e.bare⟩
section
variable{X:Cx}{pins:List (Addr×Obj)}{σ:St}{H:Hp}{s s':Shared}
theorem Inv.env0(I:Inv X pins σ H s):Env0 X.prog X.w X.K X.mg X.base X.A X.stack s H:=
 ⟨I.ok.frames,I.ok.mod,I.bs,Nat.le_trans I.ok.bsz I.sz,I.stack,I.stkFree,I.hok,I.bare⟩
theorem Inv.after{Q:VK}{u:Value}(I:Inv X pins σ H s)(h:CE X.stack X.prog X.w H s Q u s'):EP X pins σ Q u s':=by
 obtain⟨v,H',os,bare,un,hok,r,q⟩:=h
 obtain⟨hh,g,d,t,os'⟩:=s'
 obtain rfl:os'=s.os:=os
 exact⟨v,H',I.call (h':=hh) (g':=g) (d':=d) (t':=t) (ch:=[]) un hok bare (fun b z=>absurd z (by simp)),r,q⟩
end
def aM6(sp:Sp)(dvs:List V)(E:XK)(t:TA):TE:=fun σ H Q=>t σ H fun vs H1=>sp (vs++dvs) H1 Q E
def dR(K:PySem.W.Frag)(fd:FuncData)(ps:List Str)(ds:List Value):Prop:=
 ∀ (s:Shared) (us:List Value),K.In s.heap->(us++ds).length=ps.length->BindsTo s fd ⟨us,[]⟩ (ps.zip (us++ds))
theorem dR.all{K:PySem.W.Frag}{fd:FuncData}{ps:List Str}(h:∀ us:List Value,us.length=ps.length->bindArgs fd ⟨us,[]⟩=pure (ps.zip us)):dR K fd ps []:=fun s us _ hl=>by
 rw[List.append_nil]at hl ⊢
 exact .of_eq (h us hl)
def xJ(CX:CXT)(X:Cx)(E:XK):Prop:=∀ (pins:List (Addr×Obj)) (σ:St) (H:Hp) (s:Shared) (e:Value) (s':Shared),Inv X pins σ H s->CX X.stack H s E e s'->X.xe e s'
section
variable{X:Cx}{CX:CXT}{k:Nat}{f C:Addr}{fd:FuncData}{ps:List Str}{sp:Sp}{dvs:List V}{ds:List Value}{E:XK}{x m:Str}{p pos apos:Pos}{e o:Expr}{es:List Expr}{ta:TE}{t:TA}
theorem cS9{pins:List (Addr×Obj)}{σ:St}{H:Hp}{s:Shared}{Q:VK}{us:List Value}{vs:List V}(F:FnOk X.prog X.w X.K X.mg X.base CX k f fd ps sp)(hr:Room k X.A)(hb:dR X.K fd ps ds)(hd:cF dvs ds)(hx:xJ CX X E)
  (I:Inv X pins σ H s) (r:cF vs us) (h:sp (vs++dvs) H Q E):wpAny (model X.prog X.w) X.A (call (.ref f) us) (EP X pins σ Q) X.xe s:=by
 have r2:cF (vs++dvs) (us++ds):=r.append hd
 have hl:(us++ds).length=ps.length:=by rw[← r2.length];exact F.len _ _ _ _ h
 refine wpAny_call (codeAny_mono (F.run X.A X.stack s H ⟨us,[]⟩ (us++ds) (vs++dvs) Q E hr I.env0 (hb s us I.kIn hl) r2 h) fun r s' hq=>?_)
 cases r with
 | error e=>exact hx pins σ H s e s' I hq
 | ok fl=>
   cases fl with
   | ret u=>exact I.after hq
   | next=>exact False.elim hq
   | brk=>exact False.elim hq
   | cont=>exact False.elim hq
theorem aK(F:FnOk X.prog X.w X.K X.mg X.base CX k f fd ps sp)(hr:Room k X.A)(hg:Gl X x)(hm:X.mg x=some (.ref f))(hk:PySem.W.keepIn X.K (.ref f)=true)(hb:dR X.K fd ps ds)(hd:cF dvs ds)(hx:xJ CX X E)
  (ha:PA X (e::es) t) (hdb:(x==("__debug__":Str))=false:=by decide) (he:starEach (e::es) X.env=(false,eval e X.env)::starEach es X.env:=by rfl) (hpl:(backTo pos (starEach es X.env)).any (·.1)=false:=by rfl) :
  PE X (.Call (.Name x p) (e::es) [] pos) (aM6 sp dvs E t):=by
 intro pins s σ H Q I h
 refine wpAny_Call_Name_kw (qQ I hg hm ?_ hdb)
 refine PySem.W.callWith_K (h₀:=X.base) I.ok.mod.kin hk (thn (ha pos pins s σ H _ I h) fun us s1 ⟨vs,H1,I1,r,q⟩=>⟨I1.kIn,?_⟩) he hpl
 exact cS9 F hr hb hd hx I1 r q
end
def PK(X:Cx)(kws:List Keyword)(t:TA):Prop:=
 ∀ (pos:Pos) (pins:List (Addr×Obj)) (s:Shared) (σ:St) (H:Hp) (Q:List V->Hp->Prop),Inv X pins σ H s->t σ H Q->wpAny (model X.prog X.w) X.A (evalAll ((backToKw pos (keywordEach kws X.env)).map (·.2))) (AP X pins σ Q) X.xe s
section
variable{X:Cx}{CX:CXT}{k:Nat}{f C:Addr}{fd:FuncData}{ps ks:List Str}{sp:Sp}{E:XK}{x m:Str}{p pos apos kpos:Pos}{e o:Expr}{es:List Expr}{kws:List Keyword}{te ta:TE}{t tk:TA}{nm:Option Str}
variable{g:List Value->List Value->List Value}{gV:List V->List V->List V}
end
structure FnScope(N P:List Str)(sc:Scope):Prop where
 kind:sc.kind=.function
 co:sc.isCoroutine=false
 gen:sc.isGenerator=false
 nd:N.Nodup
 pre:N.take P.length=P
 par:∀ x∈P,sc.names.lookup x=some .local\/sc.names.lookup x=some .cell
 nofree:∀ y∈sc.names,y.2≠.free
theorem xK{kindOf:Str->Option NameKind}{x:Str}:∀ {binds:List (Str×Value)} {m:Str->Option Value},(∀ v,(x,v)∉binds)->bindL kindOf binds m x=m x
 | [],_,_=>rfl
 | (n,v)::r,m,h=>by
   unfold bindL
   rw[xK fun w hw=>h w (List.mem_cons_of_mem _ hw)]
   split
   ·have:x≠n:=by rintro rfl;exact h v List.mem_cons_self
    simp[this]
   ·rfl
theorem xL{kindOf:Str->Option NameKind}{x:Str}:∀ {binds:List (Str×Value)} {m:Str->Option Value},(∀ v,(x,v)∉binds)->bindC kindOf binds m x=m x
 | [],_,_=>rfl
 | (n,v)::r,m,h=>by
   unfold bindC
   rw[xL fun w hw=>h w (List.mem_cons_of_mem _ hw)]
   split
   ·rfl
   ·have:x≠n:=by rintro rfl;exact h v List.mem_cons_self
    simp[this]
theorem xM{kindOf:Str->Option NameKind}{x:Str}{v:Value}:∀ {P:List Str} {vs:List Value} {i:Nat} {m:Str->Option Value},P.Nodup->P[i]? = some x->vs[i]? = some v->kindOf x=some .local ->
  bindL kindOf (P.zip vs) m x=some v
 | [],_,_,_,_,h,_,_=>by simp at h
 | _::_,[],_,_,_,_,h,_=>by simp at h
 | p::P,w::vs,0,m,nd,h1,h2,hk=>by
   simp at h1 h2;subst h1;subst h2
   show bindL kindOf ((p,w)::P.zip vs) m p=_
   unfold bindL
   rw[xK fun v hv=>(List.nodup_cons.mp nd).1 (List.of_mem_zip hv).1,if_pos hk]
   simp
 | p::P,w::vs,i+1,m,nd,h1,h2,hk=>by
   show bindL kindOf ((p,w)::P.zip vs) m x=_
   unfold bindL
   exact xM (i:=i) (List.nodup_cons.mp nd).2 (by simpa using h1) (by simpa using h2) hk
theorem xN{kindOf:Str->Option NameKind}{x:Str}{v:Value}:∀ {P:List Str} {vs:List Value} {i:Nat} {m:Str->Option Value},P.Nodup->P[i]? = some x->vs[i]? = some v->kindOf x≠some .local ->
  bindC kindOf (P.zip vs) m x=some v
 | [],_,_,_,_,h,_,_=>by simp at h
 | _::_,[],_,_,_,_,h,_=>by simp at h
 | p::P,w::vs,0,m,nd,h1,h2,hk=>by
   simp at h1 h2;subst h1;subst h2
   show bindC kindOf ((p,w)::P.zip vs) m p=_
   unfold bindC
   rw[xL fun v hv=>(List.nodup_cons.mp nd).1 (List.of_mem_zip hv).1,if_neg hk]
   simp
 | p::P,w::vs,i+1,m,nd,h1,h2,hk=>by
   show bindC kindOf ((p,w)::P.zip vs) m x=_
   unfold bindC
   exact xN (i:=i) (List.nodup_cons.mp nd).2 (by simpa using h1) (by simpa using h2) hk
def dJ(N:List Str)(vs:List V):St:=vs.map some++List.replicate (N.length-vs.length) none
def zJ(CX:CXT)(P:Program)(w:World)(K:PySem.W.Frag)(mg:Str->Option Value)(base:Heap)(N:List Str)(qual:Str)(scope:Scope)(f:Addr)(cd:Value)(A:Around)(outer:List Env)(s:Shared)(H:Hp)(E:XK):Cx where
 prog:=P
 w:=w
 K:=K
 mg:=mg
 base:=base
 A:=A.deeper (envOfC qual scope s.heap.objs.size f cd)
 N:=N
 s₀:=s
 H₀:=H
 env:=envOfC qual scope s.heap.objs.size f cd
 outer:=outer
 stack:=envOfC qual scope s.heap.objs.size f cd::outer
 ex:=[]
 calm:=true
 fn:=fun _=>true
 pn:=[]
 xe:=fun e s'=>wpAny (model P w) (A.deeper (envOfC qual scope s.heap.objs.size f cd)) (leaving (envOfC qual scope s.heap.objs.size f cd) e) (fun _ s''=>CX outer H s E e s'') (fun e' s''=>CX outer H s E e' s'') s'
theorem aG8{sc:Scope}{n:Nat}{x:Str}(h:sc.names.lookup x=some .cell):∃ c,(cellsFrom n sc.names []).lookup x=some c:=by
 have q:=PySem.W.cellsFrom_some sc.names n [] (.inl h)
 exact Option.isSome_iff_exists.mp q
theorem aS9{CX:CXT}{P:Program}{w:World}{K:PySem.W.Frag}{mg:Str->Option Value}{base:Heap}{N ps:List Str}{qual:Str}{scope:Scope}{f:Addr}{cd:Value}{A:Around}{outer:List Env}{s s1:Shared}{H:Hp}{E:XK}{us:List Value}{vs:List V}
  (S:FnScope N ps scope) (hd:A.handled=none) (e0:Env0 P w K mg base A outer s H) (hl:vs.length=ps.length) (r:cF vs us)
  (x:InCallC s s.heap.objs.size (bindL (envOfC qual scope s.heap.objs.size f cd).kindOf (ps.zip us) fun _=>none) (cellsFrom (s.heap.objs.size+1) scope.names []) (bindC (envOfC qual scope s.heap.objs.size f cd).kindOf (ps.zip us) fun _=>none) s1) :
  Inv (zJ CX P w K mg base N qual scope f cd A outer s H E) [] (dJ N vs) H s1:=by
 have hpl:ps.length<=N.length:=by have:=congrArg List.length S.pre;rw[List.length_take]at this;omega
 obtain⟨h1,tk,rfl,hk⟩:=x.done
 have noA:∀ b:Addr,b∉(zJ CX P w K mg base N qual scope f cd A outer s H E).ex:=fun b z=>absurd (show b∈([]:List Addr)from z) (by simp)
 refine⟨⟨e0.mod,S.kind,rfl,rfl,Nat.le_refl _,fun y z c h1 h2=>?_,fun y hy=>?_,fun y c _ h=>?_,fun _=>hd,Around.frames_deeper e0.frames,.inr ⟨rfl,rfl⟩,fun b z=>absurd z (noA b),e0.bs,e0.bsz,fun b _ _=>noA b,fun b z=>absurd z (noA b),e0.funs,e0.frf⟩,
  rfl,e0.bare,Un.kept hk,⟨_,x.toInCall.ns,fun i y v h1 h2 h3=>?_⟩,fun y c h=>⟨_,x.cell y c h⟩,e0.hok.fresh (Nat.le_refl _),fun y c h=>?_,fun p hp=>absurd (show p∈([]:List (Addr×Obj))from hp) (by simp),e0.hok.kept hk,?_⟩
 ·exact name_of_addr x.apart (PySem.mem_of_lookup h1) (PySem.mem_of_lookup h2)
 ·have hy:scope.names.lookup y=some .cell\/scope.names.lookup y=some .free:=hy
  rcases hy with hy | hy
  ·exact aG8 hy
  ·exact absurd rfl (S.nofree _ (PySem.mem_of_lookup hy))
 ·exact Nat.le_of_lt (x.above y c (PySem.mem_of_lookup h))
 ·have hi:i < vs.length:=by
   unfold dJ at h2
   by_cases hi:i < vs.length
   ·exact hi
   ·rw[List.getElem?_append_right (by simpa using hi)]at h2
    rw[List.getElem?_replicate]at h2
    split at h2<;>cases h2
  have ha:vs[i]? = some v:=by
   unfold dJ at h2
   rw[List.getElem?_append_left (by simpa using hi),List.getElem?_map]at h2
   cases e:vs[i]? with
   | none=>rw[e]at h2;cases h2
   | some a=>rw[e]at h2;cases h2;rfl
  obtain⟨u,hu,rv⟩:=r.get ha
  have hp:ps[i]? = some y:=by
   rw[← S.pre,List.getElem?_take_of_lt (by omega)];exact h1
  have ndP:ps.Nodup:=by rw[← S.pre];exact S.nd.sublist (List.take_sublist _ _)
  refine⟨u,rv,?_⟩
  rcases S.par y (List.mem_of_getElem? hp)with k | k
  ·exact .inl ⟨k,xM ndP hp hu k⟩
  ·obtain⟨c,e⟩:=aG8 (n:=s.heap.objs.size+1) k
   refine .inr ⟨.inl k,c,e,?_⟩
   have q:=x.cell y c e
   rw[xN ndP hp hu (by show scope.names.lookup y≠_;rw[k];decide)]at q
   exact q
 ·exact e0.hok.fresh (Nat.le_of_lt (x.above y c (PySem.mem_of_lookup h)))
 ·unfold dJ
  show _=N.length
  rw[List.length_append,List.length_map,List.length_replicate]
  omega
theorem cT0{CX:CXT}{P:Program}{w:World}{K:PySem.W.Frag}{mg:Str->Option Value}{base:Heap}{k:Nat}{f:Addr}{name qual:Str}{params:Arguments}{body:List Stmt}{scope:Scope}{dV kV doc pm cdv ct oc:Value}{an od:Option Addr}
  {osl:Array (Option Value)} {N ps:List Str} {sp:Sp} (lk:K.lookup f=some ⟨oc,od,.func (PySem.W.fnOf name qual params body scope dV kV doc pm an cdv ct),osl⟩) (hcd:PySem.W.codeIn K cdv qual=true) (S:FnScope N ps scope)
  (len:∀ vs H Q E,sp vs H Q E->vs.length=ps.length)
  (hbody:∀ (A:Around) (outer:List Env) (s:Shared) (H:Hp) (vs:List V) (Q:VK) (E:XK),Room k (A.deeper (envOfC qual scope s.heap.objs.size f cdv))->sp vs H Q E ->
   ∃ t,PSs (zJ CX P w K mg base N qual scope f cdv A outer s H E) body t/\t {nx:=fun _ H'=>Q .non H',rt:=Q} (dJ N vs) H) :
  FnOk P w K mg base CX (k+1) f (PySem.W.fnOf name qual params body scope dV kV doc pm an cdv ct) ps sp:=by
 refine⟨len,fun A outer s H args us vs Q E hr e0 hb r hsp=>?_⟩
 have hl:=len _ _ _ _ hsp
 have KX:K.In s.heap:=e0.mod.kin.keeps fun b o e=>(e0.bs b o e).1
 have lim:s.heap.NoLimit:=e0.mod.nolimit.keeps fun b o e=>(e0.bs b o e).1
 have hkind:∀ y∈ps.zip us,scope.names.lookup y.1=some .local\/(scope.names.lookup y.1=some .cell/\((cellsFrom (s.heap.objs.size+1) scope.names []).lookup y.1).isSome=true):=fun⟨n,v⟩ hy=>by
  rcases S.par n (List.of_mem_zip hy).1 with q | q
  ·exact .inl q
  ·exact .inr ⟨q,PySem.W.cellsFrom_some _ _ _ (.inl q)⟩
 refine codeAny_call_function hr.depth (KX _ _ lk) rfl S.co S.gen rfl (PySem.W.codeRec_of KX hcd) (hb _ _ _ _ ?_)
 refine wpAny_newFunctionEnv_cells S.kind hkind fun env he s1 x=>?_
 subst he
 refine⟨lim.keeps x.toInCall.keep,codeAny_func ?_⟩
 obtain⟨t,ht,hq⟩:=hbody A outer s H vs Q E (hr.deeper _) hsp
 have I:Inv (zJ CX P w K mg base N qual scope f cdv A outer s H E) [] (dJ N vs) H s1:=aS9 S hr.hd e0 hl r x
 refine wpAny_mono (ht [] s1 (dJ N vs) H _ I hq) (fun fl s' hs=>?_) fun e s' hs=>hs
 have fin:∀ {σ':St} {H':Hp} {v:V} {u:Value},Inv (zJ CX P w K mg base N qual scope f cdv A outer s H E) [] σ' H' s'->eG v u->Q v H'->CE outer P w H s Q u s':=
  fun{σ' H' v u} J rv q=>⟨v,H',J.os,J.bare,J.base,J.hok,rv,q⟩
 cases fl with
 | ret u=>
   obtain⟨v,σ',H',J,rv,q⟩:=hs
   exact fin J rv q
 | next=>
   obtain⟨σ',H',J,q⟩:=hs
   exact fin (v:=V.non) (u:=Value.none) J rfl q
 | brk=>
   obtain⟨_,_,_,q⟩:=hs
   exact False.elim q
 | cont=>
   obtain⟨_,_,_,q⟩:=hs
   exact False.elim q
end L2
namespace L2
open PySem PySem.Spec PyProof.Rows
section
variable{X:Cx}{x:Str}{p pos:Pos}{e:Expr}{es:List Expr}{t:TA}{id T:String}{r:List V->Hp->VK->Prop}
def tCB(r:List V->Hp->VK->Prop)(t:TA):TE:=fun σ H Q=>t σ H fun vs H1=>r vs H1 Q
theorem aO(hc:kW X (.builtin id) r)(hg:Gl X x)(hm:X.mg x=none)(hv:bootBuiltins x=some (.builtin id))(ha:PA X (e::es) t)(hn:x≠"__name__":=by decide)(hdb:(x==("__debug__":Str))=false:=by decide)
  (he:starEach (e::es) X.env=(false,eval e X.env)::starEach es X.env:=by rfl) (hpl:(backTo pos (starEach es X.env)).any (·.1)=false:=by rfl):PE X (.Call (.Name x p) (e::es) [] pos) (tCB r t):=by
 intro pins s σ H Q I h
 refine wpAny_Call_Name_kw (kZ I hg hm hv ?_ hn hdb)
 exact PyProof.Rows.callWith_builtin1 (thn (ha pos pins s σ H _ I h) fun us s1 ⟨vs,H1,I1,r1,q1⟩=>hc pins s1 σ H1 vs us Q I1 r1 q1) he hpl
theorem dD(hc:kW X (.type T) r)(hg:Gl X x)(hm:X.mg x=none)(hv:bootBuiltins x=some (.type T))(ha:PA X (e::es) t)(hn:x≠"__name__":=by decide)(hdb:(x==("__debug__":Str))=false:=by decide)
  (he:starEach (e::es) X.env=(false,eval e X.env)::starEach es X.env:=by rfl) (hpl:(backTo pos (starEach es X.env)).any (·.1)=false:=by rfl):PE X (.Call (.Name x p) (e::es) [] pos) (tCB r t):=by
 intro pins s σ H Q I h
 refine wpAny_Call_Name_kw (kZ I hg hm hv ?_ hn hdb)
 exact PyProof.Rows.callWith_type1 (thn (ha pos pins s σ H _ I h) fun us s1 ⟨vs,H1,I1,r1,q1⟩=>hc pins s1 σ H1 vs us Q I1 r1 q1) he hpl
end
end L2
namespace HT
open PySem PyProof.Rows
def lexLt:List Int->List Int->Bool
 | [],[]=>false
 | [],_::_=>true
 | _::_,[]=>false
 | x::xs,y::ys=>if x=y then lexLt xs ys else decide (x < y)
theorem lexLt_cons(x y:Int)(xs ys:List Int):lexLt (x::xs) (y::ys)=if x=y then lexLt xs ys else decide (x < y):=rfl
theorem uF:lexLt [] []=false:=rfl
theorem sN(y:Int)(ys:List Int):lexLt [] (y::ys)=true:=rfl
theorem sO(x:Int)(xs:List Int):lexLt (x::xs) []=false:=rfl
theorem bP4(A:Around)(s:Shared)(a:Int)(t:Tok)(c:Int)(u:Tok):∃ e,SeqAt.EqAt A s (.int a t) (.int c u) e/\(e=true↔a=c):=
 ⟨(a==c),SeqAt.EqAt.int_int a t c u,by simp⟩
theorem bP5(A:Around)(s:Shared)(a:Int)(t:Tok)(c:Int)(u:Tok)(prog:Program)(w:World)(E:Value->Shared->Prop)(Q:Value->Shared->Prop)(h:Q (.bool (decide (a < c))) s) :
  wpAny (model prog w) A (richCompare .Lt (.int a t) (.int c u)) Q E s:=
 (PyProof.Rows.lt_int h:wpAny (model prog w) A (compareOp .Lt (.int a t) (.int c u)) Q E s)
section
open PySem.SeqAt
open PySem.AutoSeq1 (wpAny_loadPart')
open PySem.MeetsSeq PySem.MeetsSeq2 PySem.MeetsSeq3
theorem uG(l b:Addr)(items items2:Array Value)(n n2:Nat)(dd dd2:Option Addr)(sl sl2:Array (Option Value))(ns ms:List Int)(hi:IntsAre items.toList ns)(hj:IntsAre items2.toList ms) :
  Meets (Builtin.«tuple.__lt__» ⟨[.ref l,.ref b],[]⟩)
   (fun _ R s=>s.heap.get? l=some {cls:=.type "tuple",dict:=dd,data:=.seq items n,slots:=sl}/\s.heap.get? b=some {cls:=.type "tuple",dict:=dd2,data:=.seq items2 n2,slots:=sl2} /\
    R (.ok (.ret (.bool (lexLt ns ms)))) s):=
 .of_wp fun prog w A R s h=>by
  obtain⟨hp,g,d,tk,os⟩:=s;obtain⟨hl,hb,h⟩:=h
  have f2:=AutoSeq1.sub_tuple_tuple
  have z1:items.size=ns.length:=by rw[← hi.length];simp
  have z2:items2.size=ms.length:=by rw[← hj.length];simp
  wp_walk using wpAny_loadPart' hl,wpAny_loadPart' hb,wpAny_forIn_list _ (fun dI b s'=>b.1=none/\s'=⟨hp,g,d,tk,os⟩/\∃ (vs ws:List Value) (ns' ms':List Int),dI=vs.zip ws /\
   IntsAre vs ns'/\IntsAre ws ms'/\ns'.length+items2.size=ms'.length+items.size/\R (.ok (.ret (.bool (lexLt ns' ms')))) ⟨hp,g,d,tk,os⟩) _
  case turn=>
   rintro⟨y,x⟩ dI b s' ⟨hb',rfl,vs,ws,ns',ms',hz,hvi,hwi,hlen,hR⟩
   cases hvi with
   | nil=>rw[List.zip_nil_left]at hz;cases hz
   | cons a t hvi'=>
     cases hwi with
     | nil=>rw[List.zip_nil_right]at hz;cases hz
     | cons c u hwi'=>
       rw[List.zip_cons_cons]at hz
       injection hz with hyx hrest
       injection hyx with hy hx
       subst hy hx
       rw[lexLt_cons]at hR
       simp only[List.length_cons]at hlen
       obtain⟨e,he,hiff⟩:=bP4 A.in1 ⟨hp,g,d,tk,os⟩ a t c u
       refine wpAny_bind (he prog w _ _ ?_)
       cases e with
       | true=>
         rw[if_pos (hiff.mp rfl)]at hR
         wp_walk
         exact⟨rfl,rfl,_,_,_,_,hrest,hvi',hwi',by omega,hR⟩
       | false=>
         rw[if_neg (fun q=>absurd (hiff.mpr q) Bool.false_ne_true)]at hR
         have hri:=bP5 A.in1 ⟨hp,g,d,tk,os⟩ a t c u prog w
         wp_walk using hri
         exact⟨_,rfl,by simpa using hR⟩
  case fin=>
   rintro⟨b1,b2⟩ s' ⟨hb',rfl,vs,ws,ns',ms',hz,hvi,hwi,hlen,hR⟩
   simp only at hb'
   subst hb'
   have hv:lexLt ns' ms'=decide (items.size < items2.size):=by
    cases hvi with
    | nil=>
      cases hwi with
      | nil=>
        simp only[List.length_nil]at hlen
        rw[uF]
        exact(decide_eq_false (by omega)).symm
      | cons c u hw=>
        simp only[List.length_nil,List.length_cons]at hlen
        rw[sN]
        exact(decide_eq_true (by omega)).symm
    | cons a t hv=>
      cases hwi with
      | nil=>
        simp only[List.length_nil,List.length_cons]at hlen
        rw[sO]
        exact(decide_eq_false (by omega)).symm
      | cons c u hw=>
        rw[List.zip_cons_cons]at hz
        cases hz
   rw[hv]at hR
   wp_walk
   exact⟨_,rfl,by simpa[Builtin.Tuple.tupleCompareSizes]using hR⟩
  case h=>
   exact⟨rfl,rfl,items.toList,items2.toList,ns,ms,rfl,hi,hj,by omega,h⟩
end
section
variable{prog:Program}{w:World}{A:Around}{E:Value->Shared->Prop}{s:Shared}
theorem lt_tupInts{l b:Addr}{items items2:Array Value}{ns ms:List Int}{Q:Value->Shared->Prop}(hl:IsTup s.heap l items)(hb:IsTup s.heap b items2)(hi:IntsAre items.toList ns)(hj:IntsAre items2.toList ms)
  (hu:A.units < cLine) (h:Q (.bool (lexLt ns ms)) s):wpAny (model prog w) A (compareOp .Lt (.ref l) (.ref b)) Q E s:=by
 obtain⟨⟨cls,dd,data,sl⟩,ho,hc,n,hd⟩:=id hl
 obtain⟨⟨cls2,dd2,data2,sl2⟩,ho2,hc2,n2,hd2⟩:=id hb
 simp only at hc hd hc2 hd2
 subst hc hd hc2 hd2
 exact richCompare_meets_room (op:=.Lt) ⟨_,ho,rfl⟩ ⟨_,ho2,rfl⟩ PySem.F.slot_tuple_lt PySem.F.entry_tuple_lt (PySem.F.args_tuple_lt_2 _ _) (uG l b items items2 n n2 dd dd2 sl sl2 ns ms hi hj)
  ⟨ho,ho2,show Value.bool (lexLt ns ms)≠Value.notImplemented/\Q (.bool (lexLt ns ms)) s from⟨(fun x=>nomatch x),h⟩⟩ hu
theorem cat_tup{t b:Addr}{vs ws:List Value}{Q:Value->Shared->Prop}(ht:IsTup s.heap t vs.toArray)(hb:IsTup s.heap b ws.toArray)(hv:vs≠[])
  (h1:ws=[]->Q (.ref t) s) (h2:ws≠[]->Q (.ref s.heap.objs.size) {s with heap:=s.heap.push {cls:=.type "tuple",data:=.seq (vs++ws).toArray}})
  (hsz:vs.length+ws.length<=sizeLine):wpAny (model prog w) A (binaryOp .Add (.ref t) (.ref b)) Q E s:=by
 obtain⟨⟨cls,dd,data,sl⟩,ho,hc,n,hd⟩:=id ht
 obtain⟨⟨cls2,dd2,data2,sl2⟩,ho2,hc2,n2,hd2⟩:=id hb
 simp only at hc hd hc2 hd2
 subst hc hd hc2 hd2
 have e:vs.toArray++ws.toArray=(vs++ws).toArray:=by simp
 by_cases hw:ws=[]
 ·exact concat_meets ⟨_,ho,rfl⟩ ⟨_,ho2,rfl⟩ noFill_tuple_add seq_tuple_add PySem.F.slot_tuple_add PySem.F.entry_tuple_add (PySem.F.args_tuple_add_2 _ _)
   (tuple_addW1 t b vs.toArray ws.toArray n n2 dd dd2 sl sl2 (by simpa using hv) (by simp[hw])) ⟨ho,ho2,h1 hw⟩
 ·refine concat_meets ⟨_,ho,rfl⟩ ⟨_,ho2,rfl⟩ noFill_tuple_add seq_tuple_add PySem.F.slot_tuple_add PySem.F.entry_tuple_add (PySem.F.args_tuple_add_2 _ _)
   (tuple_addW2 t b vs.toArray ws.toArray n n2 dd dd2 sl sl2 (by simpa using hv) (by simpa using hw) (by rw[List.size_toArray,List.size_toArray];exact hsz)) ⟨ho,ho2,?_⟩
  rw[e]
  exact h2 hw
def sIx(n d:Nat):Option Int->Nat
 | none=>d
 | some v=>if v < 0 then(v+(n:Int)).toNat else min v.toNat n
theorem sIx_none(n d:Nat):sIx n d none=d:=rfl
theorem sIx_nat(n d k:Nat):sIx n d (some (k:Int))=min k n:=by
 show(if(k:Int) < 0 then((k:Int)+(n:Int)).toNat else min (k:Int).toNat n)=min k n
 rw[if_neg (by omega),Int.toNat_natCast]
theorem cT1(n d:Nat)(hd:d<=n)(o:Option Int):sIx n d o<=n:=by
 cases o with
 | none=>exact hd
 | some v=>
   show(if v < 0 then(v+(n:Int)).toNat else min v.toNat n)<=n
   by_cases hv:v < 0
   ·rw[if_pos hv];omega
   ·rw[if_neg hv];exact Nat.min_le_right _ _
theorem aT0(v:Int)(n d:Nat):(if v < 0 then max (v+(n:Int)) 0 else min v (n:Int))=((sIx n d (some v):Nat):Int):=by
 show(if v < 0 then max (v+(n:Int)) 0 else min v (n:Int))=(((if v < 0 then(v+(n:Int)).toNat else min v.toNat n):Nat):Int)
 by_cases hv:v < 0
 ·simp only[if_pos hv];omega
 ·simp only[if_neg hv];omega
theorem aM7(lo hi:Option Int)(n:Nat):Builtin.Slice.sliceAdjust lo hi 1 (n:Int)=(((sIx n 0 lo:Nat):Int),((sIx n n hi:Nat):Int)):=by
 have h1:¬ ((1:Int) < 0):=by omega
 unfold Builtin.Slice.sliceAdjust
 simp only[h1,if_false]
 refine Prod.ext ?_ ?_
 ·cases lo with
  | none=>rfl
  | some v=>exact aT0 v n 0
 ·cases hi with
  | none=>rfl
  | some v=>exact aT0 v n n
theorem aM8(i j:Nat):Builtin.Slice.slicePlaces (i:Int) (j:Int) 1=j-i:=by
 unfold Builtin.Slice.slicePlaces
 have h1:(1:Int) > 0:=by omega
 simp only[h1,if_true,Int.ediv_one]
 split<;>omega
theorem tE{v:Value}{o:Option Int}{Q:Option Int->Shared->Prop}(p:IsPart v o)(h:Q o s):wpAny (model prog w) A (Builtin.Slice.slicePartIndex v) Q E s:=by
 cases p with
 | none=>exact slicePart_none h
 | int i t=>exact slicePart_int h
theorem jC{sl:Addr}{vl vu:Value}{lo hi:Option Int}{n:Nat}{Q:Int×Int×Nat->Shared->Prop}(hs:s.heap.IsSliceOf sl vl vu .none)(pl:IsPart vl lo)(pu:IsPart vu hi)
  (h:Q (((sIx n 0 lo:Nat):Int),1,sIx n n hi-sIx n 0 lo) s):wpAny (model prog w) A (Builtin.Slice.sliceApplied (.ref sl) (pure (n:Int))) Q E s:=by
 obtain⟨os,hos,hcs,hds⟩:=id hs
 unfold Builtin.Slice.sliceApplied Builtin.Slice.sliceFields
 refine wpAny_bind (wpAny_bind (wpAny_field hos hds (x:=vl) rfl (wpAny_bind (wpAny_field hos hds (x:=vu) rfl (wpAny_bind (wpAny_field hos hds (x:=.none) rfl (wpAny_pure ?_)))))))
 refine wpAny_bind (slicePart_none ?_)
 show wpAny _ _ (if((1:Int)==0)=true then _ else _) _ _ s
 rw[if_neg (by decide)]
 refine wpAny_bind (tE pl (wpAny_bind (tE pu (wpAny_bind (wpAny_pure ?_)))))
 show wpAny _ _ (match Builtin.Slice.sliceAdjust lo hi 1 (n:Int)with | (lo,hi)=>pure (lo,(1:Int),Builtin.Slice.slicePlaces lo hi 1)) _ _ s
 rw[aM7 lo hi n]
 show wpAny _ _ (pure (((sIx n 0 lo:Nat):Int),(1:Int),Builtin.Slice.slicePlaces ((sIx n 0 lo:Nat):Int) ((sIx n n hi:Nat):Int) 1)) _ _ s
 rw[aM8]
 exact wpAny_pure h
theorem bP6(xs:Array Value)(i k:Nat):((List.range k).filterMap fun(m:Nat)=>xs[((i:Int)+(m:Int)*1).toNat]?).toArray=((xs.toList.drop i).take k).toArray:=by
 have e:(fun(m:Nat)=>xs[((i:Int)+(m:Int)*1).toNat]?)=fun m=>xs[i+m]?:=by
  funext m
  have:((i:Int)+(m:Int)*1).toNat=i+m:=by omega
  rw[this]
 rw[e]
 have:=pick_run xs i k
 rw[List.filterMap_map]at this
 have e2:((fun x=>xs[x]?) ∘ fun x=>i+x)=fun m=>xs[i+m]?:=rfl
 rw[e2]at this
 rw[this]
theorem getItem_tuple_cut{t sl:Addr}{items:Array Value}{vl vu:Value}{lo hi:Option Int}{Q:Value->Shared->Prop}(ht:IsTup s.heap t items)(hs:s.heap.IsSliceOf sl vl vu .none)(pl:IsPart vl lo)(pu:IsPart vu hi)
  (hw:¬ (sIx items.size 0 lo=0/\sIx items.size items.size hi=items.size))
  (h:Q (.ref s.heap.objs.size) {s with heap:=s.heap.push {cls:=.type "tuple",data:=.seq ((items.toList.drop (sIx items.size 0 lo)).take (sIx items.size items.size hi-sIx items.size 0 lo)).toArray}})
  (hsz:items.size<=sizeLine):wpAny (model prog w) A (getItem (.ref t) (.ref sl)) Q E s:=by
 have htake:sizeOk (.seq ((items.toList.drop (sIx items.size 0 lo)).take (sIx items.size items.size hi-sIx items.size 0 lo)).toArray):=by
  show((items.toList.drop (sIx items.size 0 lo)).take (sIx items.size items.size hi-sIx items.size 0 lo)).toArray.size<=sizeLine
  rw[List.size_toArray,List.length_take,List.length_drop,Array.length_toList]
  omega
 have hj:sIx items.size items.size hi<=items.size:=cT1 _ _ (Nat.le_refl _) hi
 obtain⟨os,hos,hcs,hds⟩:=id hs
 have hTs:s.TypeIs (.ref sl) "slice":=⟨os,hos,hcs⟩
 unfold getItem
 try with_reducible refine wpAny_holding ?_
 first | refine wpAny_bind (wpAny_pure ?_) | skip
 refine wpAny_bind (wpAny_sequenceKey ht.typeIs (by decide) ?_)
 refine wpAny_bind (wpAny_callSpecial?_slot (name:=Str.ofString "__getitem__") ht.typeIs PyProof.Rows.slot_tuple_getitem
  (wpAny_call_entry PyProof.Rows.slot_tuple_getitem ht.typeIs entry_tuple_getitem ?_ (args_tuple_getitem _ _)))
 show wpAny _ _ (Builtin.Tuple.tupleItemsOf (.ref t) >>= _) _ _ s
 refine wpAny_bind (tupleItemsOf_ ht ?_)
 refine wpAny_bind (wpAny_typeOf hTs ?_)
 rw[if_pos (by decide)]
 refine wpAny_bind (jC hs pl pu ?_)
 have hno:¬ ((((sIx items.size 0 lo:Nat):Int)==0&&(1:Int)==1&&(sIx items.size items.size hi-sIx items.size 0 lo)==items.size)=true):=by
  intro q
  rw[Bool.and_eq_true,Bool.and_eq_true]at q
  have q1:((sIx items.size 0 lo:Nat):Int)=0:=eq_of_beq q.1.1
  have q2:sIx items.size items.size hi-sIx items.size 0 lo=items.size:=eq_of_beq q.2
  exact hw ⟨by omega,by omega⟩
 show wpAny _ _ (if(((sIx items.size 0 lo:Nat):Int)==0&&(1:Int)==1&&(sIx items.size items.size hi-sIx items.size 0 lo)==items.size)=true then _ else _) _ _ s
 rw[if_neg hno,bP6]
 first
  | exact wpAny_bind (m:=Builtin.Tuple.tupleExact _) (wpAny_newObj_type (wpAny_pure ⟨_,rfl,wpAny_pure h⟩) htake)
  | exact wpAny_bind (m:=Builtin.Tuple.tupleExact _) (wpAny_newObj_type (wpAny_bind (wpAny_pure (wpAny_pure ⟨_,rfl,wpAny_pure h⟩))) htake)
  | exact wpAny_bind (wpAny_bind (m:=Builtin.Tuple.tupleExact _) (wpAny_newObj_type (wpAny_pure (wpAny_pure ⟨_,rfl,wpAny_pure h⟩)) htake))
  | exact wpAny_bind (wpAny_bind (m:=Builtin.Tuple.tupleExact _) (wpAny_newObj_type (wpAny_pure ⟨_,rfl,wpAny_pure h⟩) htake))
end
end HT
namespace L2
open PySem PySem.Spec PyProof.Rows
abbrev TO:=St->Hp->(Option Int->Hp->Prop)->Prop
def PO(X:Cx)(e:Option Expr)(t:TO):Prop:=
 ∀ (pins:List (Addr×Obj)) (s:Shared) (σ:St) (H:Hp) (Q:Option Int->Hp->Prop),Inv X pins σ H s->t σ H Q ->
   wpAny (model X.prog X.w) X.A (evalPart e X.env) (fun u s'=>∃ o H',Inv X pins σ H' s'/\IsPart u o/\Q o H') X.xe s
def aT1:TO:=fun _ H Q=>Q none H
def cT2(t:TE):TO:=fun σ H Q=>t σ H fun x H1=>∃ i,x=.int i/\Q (some i) H1
theorem tF{ns:List Int}:∀ {us:List Value},cF (ns.map V.int) us->IntsAre us ns:=by
 induction ns with
 | nil=>intro us r;rw[List.map_nil]at r;cases r;exact .nil
 | cons n ns ih=>
   intro us r
   rw[List.map_cons]at r
   cases r with
   | cons r1 r2=>
     obtain⟨t,e⟩:=r1
     subst e
     exact .cons n t (ih r2)
section
variable{X:Cx}{e:Expr}{te:TE}{lo hi:Option Expr}{tl th:TO}{pos p2:Pos}
theorem nY:PO X none aT1:=by
 intro pins s σ H Q I h
 rw[evalPart_none]
 exact wpAny_pure ⟨none,H,I,.none,h⟩
theorem nZ(h:PE X e te):PO X (some e) (cT2 te):=by
 intro pins s σ H Q I hw
 rw[evalPart_some]
 refine thn (h pins s σ H _ I hw) fun u s1 ⟨x,H1,I1,r1,q1⟩=>?_
 obtain⟨i,rfl,q⟩:=q1
 obtain⟨t,rfl⟩:=r1
 exact⟨some i,H1,I1,.int i t,q⟩
def SlR(X:Cx)(r:V->Option Int->Option Int->Hp->VK->Prop):Prop:=
 ∀ (pins:List (Addr×Obj)) (s:Shared) (σ:St) (H:Hp) (x:V) (v vl vu:Value) (lo hi:Option Int) (sl:Addr) (Q:VK),Inv X pins σ H s->eG x v->s.heap.IsSliceOf sl vl vu .none->IsPart vl lo->IsPart vu hi->r x lo hi H Q ->
   ∃ T id,typeLookup (.type T) "__getitem__"=pure (some (.builtin id))/\s.TypeIs v T/\wpAny (model X.prog X.w) X.A (getItem v (.ref sl)) (EP X pins σ Q) X.xe s
def tSl(r:V->Option Int->Option Int->Hp->VK->Prop)(te:TE)(tl th:TO):TE:=fun σ H Q=>te σ H fun x H1=>tl σ H1 fun l H2=>th σ H2 fun u H3=>r x l u H3 Q
theorem kL{r:V->Option Int->Option Int->Hp->VK->Prop}(hr:SlR X r)(he:PE X e te)(hl:PO X lo tl)(hu:PO X hi th):PE X (.Subscript e (.Slice lo hi none p2) pos) (tSl r te tl th):=by
 intro pins s σ H Q I h
 refine Subscript_ (thn (he pins s σ H _ I h) fun v s1 ⟨x,H1,I1,r1,q1⟩=>?_)
 refine wpAny_Slice (thn (hl pins s1 σ H1 _ I1 q1) fun vl s2 ⟨l,H2,I2,pl,q2⟩=>thn (hu pins s2 σ H2 _ I2 q2) fun vu s3 ⟨u,H3,I3,pu,q3⟩=>?_)
 rw[evalPart_none]
 refine wpAny_pure ?_
 have I4:Inv X pins σ H3 {s3 with heap:=s3.heap.push {cls:=.type "slice",data:=.fields #[vl,vu,.none]}}:=I3.kept (t':=s3.toks) fun b ob q=>Heap.get?_push_of_some _ q
 obtain⟨T,id,hT,ht,hg⟩:=hr pins {s3 with heap:=s3.heap.push {cls:=.type "slice",data:=.fields #[vl,vu,.none]}} σ H3 x v vl vu l u s3.heap.objs.size Q I4 r1 (Heap.IsSliceOf.new ..) pl pu q3
 show wpAny (model X.prog X.w) X.A (subscriptTail e (.Slice lo hi none p2) v (.ref s3.heap.objs.size)) (EP X pins σ Q) X.xe {s3 with heap:=s3.heap.push {cls:=.type "slice",data:=.fields #[vl,vu,.none]}}
 exact tail_any (ops:=[.ref s3.heap.objs.size,v]) ht hT hg (by with_unfolding_all rfl)
def pU(xs:List V)(lo hi:Option Int):List V:=(xs.drop (HT.sIx xs.length 0 lo)).take (HT.sIx xs.length xs.length hi-HT.sIx xs.length 0 lo)
theorem qW(xs:List V)(lo hi:Option Int):(pU xs lo hi).length<=xs.length:=by
 unfold pU
 rw[List.length_take,List.length_drop]
 omega
def dL7(K:PySem.W.Frag):V->Option Int->Option Int->Hp->VK->Prop:=fun x lo hi H Q=>∃ a xs,x=.ref a/\SqT K H a xs /\
 ¬ (HT.sIx xs.length 0 lo=0/\HT.sIx xs.length xs.length hi=xs.length)/\∀ p,H p=none->Q (.ref p) (upd H p (.tup (pU xs lo hi)))
theorem cT3:SlR X (dL7 X.K):=by
 intro pins s σ H x v vl vu lo hi sl Q I rx hs pl pu h
 obtain⟨a,xs,rfl,hx,hw,q⟩:=h
 cases rx
 obtain⟨its,r,ht,hz⟩:=I.tuple hx
 have hlen:its.toArray.size=xs.length:=by rw[List.size_toArray];exact r.length.symm
 refine⟨"tuple",_,PyProof.Rows.slot_tuple_getitem.lookup,ht.typeIs,?_⟩
 refine HT.getItem_tuple_cut ht hs pl pu (by rw[hlen];exact hw) ?_ (by rw[hlen];exact hz)
 rw[hlen]
 refine⟨.ref s.heap.objs.size,_,I.laid (t':=s.toks) (o:=.tup (pU xs lo hi)) (fun b ob q=>Heap.get?_push_of_some _ q) (Nat.le_refl _) ?_,rfl,q _ (I.hok.fresh (Nat.le_refl _))⟩
 exact⟨Nat.le_trans (qW xs lo hi) hz,_,(r.drop (HT.sIx xs.length 0 lo)).take (HT.sIx xs.length xs.length hi-HT.sIx xs.length 0 lo),IsTup.new _ _,⟨_,Heap.get?_push_size _ rfl,rfl⟩⟩
def dL8(K:PySem.W.Frag):R2:=fun x y H Q=>∃ a b ns ms,x=.ref a/\y=.ref b/\SqT K H a (ns.map V.int)/\SqT K H b (ms.map V.int)/\Q (.bl (HT.lexLt ns ms)) H
theorem cT4(hu:X.A.units < cLine):OpR X (compareOp .Lt) (dL8 X.K):=by
 intro pins s σ H x y v u Q I rx ry h
 obtain⟨a,b,ns,ms,rfl,rfl,ha,hb,q⟩:=h
 cases rx
 cases ry
 obtain⟨its,r1,p1,_⟩:=I.tuple ha
 obtain⟨its2,r2,p2,_⟩:=I.tuple hb
 have i1:IntsAre its.toArray.toList ns:=tF r1
 have i2:IntsAre its2.toArray.toList ms:=tF r2
 exact HT.lt_tupInts p1 p2 i1 i2 hu ⟨.bl (HT.lexLt ns ms),H,I,rfl,q⟩
def dF1(K:PySem.W.Frag):R2:=fun x y H Q=>∃ a b xs ys,x=.ref a/\y=.ref b/\SqT K H a xs/\SqT K H b ys/\xs≠[]/\xs.length+ys.length<=sizeLine /\
 (ys=[]->Q (.ref a) H)/\(ys≠[]->∀ p,H p=none->Q (.ref p) (upd H p (.tup (xs++ys))))
theorem cF.nil_iff{xs:List V}{us:List Value}(r:cF xs us):us=[]↔xs=[]:=by
 cases r with
 | nil=>simp
 | cons _ _=>simp
theorem cG1:OpR X (binaryOp .Add) (dF1 X.K):=by
 intro pins s σ H x y v u Q I rx ry h
 obtain⟨a,b,xs,ys,rfl,rfl,ha,hb,hx,hz,q1,q2⟩:=h
 cases rx
 cases ry
 obtain⟨its,r1,p1,_⟩:=I.tuple ha
 obtain⟨its2,r2,p2,_⟩:=I.tuple hb
 refine HT.cat_tup p1 p2 (fun z=>hx (r1.nil_iff.mp z)) (fun z=>⟨.ref a,H,I,rfl,q1 (r2.nil_iff.mp z)⟩) (fun z=>?_) (by rw[← r1.length,← r2.length];exact hz)
 refine⟨.ref s.heap.objs.size,_,I.laid (t':=s.toks) (o:=.tup (xs++ys)) (fun b ob q=>Heap.get?_push_of_some _ q) (Nat.le_refl _) ?_,rfl,q2 (fun w=>z (r2.nil_iff.mpr w)) _ (I.hok.fresh (Nat.le_refl _))⟩
 exact⟨by rw[List.length_append];exact hz,_,r1.append r2,IsTup.new _ _,⟨_,Heap.get?_push_size _ rfl,rfl⟩⟩
end
end L2
namespace L2
open PySem PySem.Spec PyProof.Rows
def ixN(n:Nat)(i:Int):Option Nat:=if 0<=i then(if i < n then some i.toNat else none)else if -(n:Int)<=i then some (i+n).toNat else none
def atI{α:Type}(xs:List α)(i:Int):Option α:=(ixN xs.length i).bind fun j=>xs[j]?
theorem zM{n:Nat}{i:Int}{j:Nat}(h:ixN n i=some j):seqIndex? i n=some j/\j < n /\ -(n:Int)<=i/\i < n:=by
 unfold ixN at h
 by_cases h0:0<=i
 ·rw[if_pos h0]at h
  by_cases h1:i < n
  ·rw[if_pos h1]at h
   have e:i.toNat=j:=Option.some.inj h
   exact⟨by rw[seqIndex_of h0 h1,e],by omega,by omega,h1⟩
  ·rw[if_neg h1]at h;cases h
 ·rw[if_neg h0]at h
  by_cases h1:-(n:Int)<=i
  ·rw[if_pos h1]at h
   have e:(i+n).toNat=j:=Option.some.inj h
   exact⟨by rw[seqIndex_neg (by omega) h1,e],by omega,h1,by omega⟩
  ·rw[if_neg h1]at h;cases h
theorem uH{α:Type}{xs:List α}{i:Int}{v:α}(h:atI xs i=some v):∃ j,seqIndex? i xs.length=some j/\xs[j]? = some v/\j < xs.length /\ -(xs.length:Int)<=i/\i < xs.length:=by
 unfold atI at h
 cases e:ixN xs.length i with
 | none=>rw[e]at h;cases h
 | some j=>
   rw[e]at h
   obtain⟨h1,h2,h3,h4⟩:=zM e
   exact⟨j,h1,h,h2,h3,h4⟩
theorem uI{α:Type}{xs:List α}{j:Nat}{v:α}(h:xs[j]? = some v):atI xs (j:Int)=some v:=by
 have hj:j < xs.length:=(List.getElem?_eq_some_iff.mp h).1
 have e:ixN xs.length (j:Int)=some j:=by
  unfold ixN
  rw[if_pos (by omega),if_pos (by omega)];simp
 unfold atI;rw[e];exact h
def aT2(b:Expr):Prop:=∀ o i,subscripted b false o i=operate [o,i] (getItem o i)
def IxR(X:Cx)(r:R2):Prop:=
 ∀ (value slice:Expr) (pins:List (Addr×Obj)) (s:Shared) (σ:St) (H:Hp) (x y:V) (v u:Value) (Q:VK),Inv X pins σ H s->eG x v->eG y u->r x y H Q ->
   subscripted slice false v u=operate [v,u] (getItem v u)->wpAny (model X.prog X.w) X.A (subscriptTail value slice v u) (EP X pins σ Q) X.xe s
def MtR(X:Cx)(id:String)(r:V->List V->Hp->VK->Prop):Prop:=
 ∀ (pins:List (Addr×Obj)) (s:Shared) (σ:St) (H:Hp) (x:V) (xs:List V) (v:Value) (us:List Value) (Q:VK),Inv X pins σ H s->eG x v->cF xs us->r x xs H Q ->
   wpAny (model X.prog X.w) X.A (call (.builtin id) (v::us)) (EP X pins σ Q) X.xe s
section
variable{X:Cx}{a b:Expr}{ta tb:TE}{pos:Pos}
theorem jJ{r:R2}(hr:IxR X r)(ha:PE X a ta)(hb:PE X b tb)(hs:aT2 b):PE X (.Subscript a b pos) (tOp r ta tb):=by
 intro pins s σ H Q I h
 exact Subscript_ (dE6 ha hb I h fun v u s2 x y H2 I2 rx ry q=>hr a b pins s2 σ H2 x y v u Q I2 rx ry q (hs _ _))
def dL9(K:PySem.W.Frag):R2:=fun x y H Q=>∃ p xs i v,x=.ref p/\y=.int i/\SqL K H p xs/\atI xs i=some v/\Q v H
def dM0(K:PySem.W.Frag):R2:=fun x y H Q=>∃ p xs i v,x=.ref p/\y=.int i/\SqT K H p xs/\atI xs i=some v/\Q v H
def dM1:R2:=fun x y H Q=>∃ z i c,x=.str z/\y=.int i/\z.length<=sizeLine/\atI z.cps.toList i=some c/\Q (.str ⟨#[c]⟩) H
theorem cG2:IxR X (dL9 X.K):=by
 intro value slice pins s σ H x y v u Q I rx ry h hs
 obtain⟨p,xs,i,z,rfl,rfl,hq,he,q⟩:=h
 cases rx
 obtain⟨t,rfl⟩:=ry
 obtain⟨its,r,pl,hz⟩:=I.list hq
 obtain⟨j,h1,h2,h3,h4,h5⟩:=uH he
 obtain⟨w,ew,rw'⟩:=r.get h2
 have hl:=r.length
 have hn:=qT
 have fin:EP X pins σ Q w s:=⟨z,H,I,rw',q⟩
 by_cases h0:0<=i
 ·have hj:i.toNat=j:=by
   rw[seqIndex_of h0 h5]at h1
   exact Option.some.inj h1
  exact item_listR pl.isList h0 (by omega) (by rw[hj];simpa using ew) fin hs
 ·have hj:(i+(its.toArray.size:Int)).toNat=j:=by
   rw[seqIndex_neg (by omega) h4]at h1
   rw[List.size_toArray,← hl]
   exact Option.some.inj h1
  exact subscriptTail_builtinR (x:=w) pl.isList.typeIs slot_list_getitem.lookup
   (wpAny_getItem_list_neg (Q:=fun r s'=>r=w/\EP X pins σ Q r s') pl.isList (by omega) (by rw[List.size_toArray]<;>omega) (by omega) (by rw[hj];simpa using ew) ⟨rfl,fin⟩) hs
theorem cT5:IxR X (dM0 X.K):=by
 intro value slice pins s σ H x y v u Q I rx ry h hs
 obtain⟨p,xs,i,z,rfl,rfl,hq,he,q⟩:=h
 cases rx
 obtain⟨t,rfl⟩:=ry
 obtain⟨its,r,pl,hz⟩:=I.tuple hq
 obtain⟨j,h1,h2,h3,h4,h5⟩:=uH he
 obtain⟨w,ew,rw'⟩:=r.get h2
 have hl:=r.length
 have hn:=qT
 have fin:EP X pins σ Q w s:=⟨z,H,I,rw',q⟩
 exact subscriptTail_builtinR (x:=w) pl.typeIs slot_tuple_getitem.lookup
  (getItem_tuple (j:=j) (Q:=fun r s'=>r=w/\EP X pins σ Q r s') pl (by omega) (by omega) (by rw[List.size_toArray,← hl];exact h1) (by simpa using ew) ⟨rfl,fin⟩) hs
theorem cT6:IxR X dM1:=by
 intro value slice pins s σ H x y v u Q I rx ry h hs
 obtain⟨z,i,c,rfl,rfl,hz,he,q⟩:=h
 obtain⟨t,rfl⟩:=rx
 obtain⟨t',rfl⟩:=ry
 obtain⟨j,h1,h2,h3,h4,h5⟩:=uH he
 have hl:z.cps.toList.length=z.length:=by simp[Str.length]
 rw[hl]at h1 h4 h5
 have hn:=qT
 exact tail_any (typeIs_str s z t) slot_str_getitem.lookup (getItem_str (c:=c) (by
  have e1:decide (i < -(2 ^ 63:Int))=false:=decide_eq_false (by omega)
  have e2:decide (i ≥ 2 ^ 63)=false:=decide_eq_false (by omega)
  rw[e1,e2,Bool.or_false]) (by rw[h1];simpa using h2) ⟨.str ⟨#[c]⟩,H,I.tok _,⟨_,rfl⟩,q⟩) hs
theorem aM9(its:List Value)(n j:Nat)(u:Value):Obj.mapSeq (·.setIfInBounds j u) {cls:=.type "list",data:=.seq its.toArray n}={cls:=.type "list",data:=.seq (its.set j u).toArray n}:=by
 simp[Obj.mapSeq]
theorem Inv.lst{pins:List (Addr×Obj)}{σ:St}{H:Hp}{s:Shared}{p:Addr}{xs:List V}(I:Inv X pins σ H s)(h:H p=some (.lst xs)) :
  ∃ (its:List Value) (n:Nat),cF xs its/\s.heap.get? p=some {cls:=.type "list",data:=.seq its.toArray n}/\xs.length<=sizeLine:=by
 obtain⟨z,its,n,r,e⟩:=I.hok p _ h
 exact⟨its,n,r,e,z⟩
theorem Inv.lstUpd{pins:List (Addr×Obj)}{σ:St}{H:Hp}{s:Shared}{p:Addr}{xs ys:List V}{its its':List Value}{n n':Nat}{f:Obj->Obj}(I:Inv X pins σ H s)(h:H p=some (.lst xs))
  (ho:s.heap.get? p=some {cls:=.type "list",data:=.seq its.toArray n}) (hf:f {cls:=.type "list",data:=.seq its.toArray n}={cls:=.type "list",data:=.seq its'.toArray n'}) (r:cF ys its') (hz:ys.length<=sizeLine) (t:Nat) :
  Inv X pins σ (upd H p (.lst ys)) {s with heap:=s.heap.update p f,toks:=t}:=by
 have e:(s.heap.update p f).get? p=some {cls:=.type "list",data:=.seq its'.toArray n'}:=by
  rw[Heap.get?_update_self f ho (by rw[hf]<;>rfl),hf]
 refine I.write (x:=p) (e:=p) (by rw[h];trivial) (.inl rfl) (fun b u hb q=>(Heap.get?_update_other _ _ (Ne.symm hb)).trans q) ⟨_,e⟩ ?_
 exact⟨hz,its',n',r,e⟩
def cG3:V->V->V->Hp->(Hp->Prop)->Prop:=fun o i v H Q=>∃ p xs k j,o=.ref p/\i=.int k/\H p=some (.lst xs)/\ixN xs.length k=some j/\Q (upd H p (.lst (xs.set j v)))
theorem mG:dI9 X cG3:=by
 intro pins s σ H o i v ov iv u Q I ro ri rv h
 obtain⟨p,xs,k,j,rfl,rfl,hp,hj,q⟩:=h
 cases ro
 obtain⟨t,rfl⟩:=ri
 obtain⟨its,n,r,ho,hz⟩:=I.lst hp
 obtain⟨h1,h2,h3,h4⟩:=zM hj
 have hl:=r.length
 have hn:=qT
 have I':Inv X pins σ (upd H p (.lst (xs.set j v))) {s with heap:=s.heap.update p (Obj.mapSeq (·.setIfInBounds j u))}:=
  I.lstUpd hp ho (aM9 its n j u) (r.set rv j) (by rw[List.length_set];exact hz) s.toks
 by_cases h0:0<=k
 ·have hk:k.toNat=j:=by
   rw[seqIndex_of h0 h4]at h1
   exact Option.some.inj h1
  exact PySem.W.ki_setAt ho h0 (by omega) (by rw[List.size_toArray,← hl];exact h4) (by rw[hk];exact⟨_,I',q⟩)
 ·have hk:(k+(its.toArray.size:Int)).toNat=j:=by
   rw[seqIndex_neg (by omega) h3]at h1
   rw[List.size_toArray,← hl]
   exact Option.some.inj h1
  exact PySem.W.ki_setBack ho (by omega) (by rw[List.size_toArray,← hl];exact h3) (by omega) (by rw[hk];exact⟨_,I',q⟩)
theorem xO(lo hi:Option Int)(n:Nat):(sliceBounds lo hi none n).1=((HT.sIx n 0 lo:Nat):Int)/\(sliceBounds lo hi none n).2.1=((HT.sIx n n hi:Nat):Int)/\(sliceBounds lo hi none n).2.2=1:=by
 refine⟨?_,?_,rfl⟩
 ·cases lo with
  | none=>simp[sliceBounds,HT.sIx]
  | some i=>
    simp only[sliceBounds,HT.sIx,Option.getD_none,show(1:Int) > 0 by decide,if_true]
    by_cases h:i < 0
    ·simp only[h,if_true]<;>omega
    ·simp only[h,if_false]<;>omega
 ·cases hi with
  | none=>simp[sliceBounds,HT.sIx]
  | some i=>
    simp only[sliceBounds,HT.sIx,Option.getD_none,show(1:Int) > 0 by decide,if_true]
    by_cases h:i < 0
    ·simp only[h,if_true]<;>omega
    ·simp only[h,if_false]<;>omega
theorem uJ(its:List Value)(lo hi:Option Int):slicePick its.toArray lo hi none=((its.drop (HT.sIx its.length 0 lo)).take (HT.sIx its.length its.length hi-HT.sIx its.length 0 lo)).toArray:=by
 obtain⟨h1,h2,h3⟩:=xO lo hi its.toArray.size
 unfold slicePick
 rw[h1,h2,h3]
 simp only[sliceRange_one,pick_run,List.size_toArray]<;>rfl
def dM2(K:PySem.W.Frag):V->Option Int->Option Int->Hp->VK->Prop:=fun x lo hi H Q=>∃ a xs,x=.ref a/\SqL K H a xs/\∀ p,H p=none->Q (.ref p) (upd H p (.lst (pU xs lo hi)))
theorem cG4:SlR X (dM2 X.K):=by
 intro pins s σ H x v vl vu lo hi sl Q I rx hs pl pu h
 obtain⟨a,xs,rfl,hx,q⟩:=h
 cases rx
 obtain⟨its,r,ht,hz⟩:=I.list hx
 have hlen:=r.length
 refine⟨"list",_,slot_list_getitem.lookup,ht.isList.typeIs,?_⟩
 refine wpAny_getItem_list_slice ht.isList hs pl pu .none (by simp) ?_ (by rw[List.size_toArray]<;>omega)
 rw[uJ,← hlen]
 refine⟨.ref s.heap.objs.size,_,I.laid (t':=s.toks) (o:=.lst (pU xs lo hi)) (fun b ob q=>Heap.get?_push_of_some _ q) (Nat.le_refl _) ?_,rfl,q _ (I.hok.fresh (Nat.le_refl _))⟩
 exact⟨Nat.le_trans (qW xs lo hi) hz,_,0,(r.drop (HT.sIx xs.length 0 lo)).take (HT.sIx xs.length xs.length hi-HT.sIx xs.length 0 lo),Heap.get?_push_size _ rfl⟩
def qX:V->Bool
 | .non=>true
 | .bl _=>true
 | .int _=>true
 | .str _=>true
 | _=>false
def eqV:V->V->Bool
 | .non,.non=>true
 | .bl a,.bl b=>a==b
 | .bl a,.int b=>(if a then 1 else 0)==b
 | .int a,.bl b=>a==(if b then 1 else 0)
 | .int a,.int b=>a==b
 | .str a,.str b=>a==b
 | _,_=>false
theorem cT7{A:Around}{s:Shared}{y x:V}{u v:Value}(ry:eG y u)(rx:eG x v)(fy:qX y=true)(fx:qX x=true):SeqAt.EqAt A s u v (eqV y x):=by
 cases y with
 | non=>
   cases ry
   cases x with
   | non=>cases rx;exact SeqAt.EqAt.same _
   | bl b=>cases rx;exact SeqAt.EqAt.none_bool b
   | int b=>obtain⟨t,rfl⟩:=rx;exact SeqAt.EqAt.none_int b t
   | str b=>obtain⟨t,rfl⟩:=rx;exact SeqAt.EqAt.none_str b t
   | _=>exact absurd (show false=true from fx) Bool.false_ne_true
 | bl a=>
   cases ry
   cases x with
   | non=>cases rx;exact SeqAt.EqAt.bool_none a
   | bl b=>cases rx;exact SeqAt.EqAt.bool_bool a b
   | int b=>obtain⟨t,rfl⟩:=rx;exact SeqAt.EqAt.bool_int a b t
   | str b=>obtain⟨t,rfl⟩:=rx;exact SeqAt.EqAt.bool_str a b t
   | _=>exact absurd (show false=true from fx) Bool.false_ne_true
 | int a=>
   obtain⟨t',rfl⟩:=ry
   cases x with
   | non=>cases rx;exact SeqAt.EqAt.int_none a t'
   | bl b=>cases rx;exact SeqAt.EqAt.int_bool a t' b
   | int b=>obtain⟨t,rfl⟩:=rx;exact SeqAt.EqAt.int_int a t' b t
   | str b=>obtain⟨t,rfl⟩:=rx;exact SeqAt.EqAt.int_str a t' b t
   | _=>exact absurd (show false=true from fx) Bool.false_ne_true
 | str a=>
   obtain⟨t',rfl⟩:=ry
   cases x with
   | non=>cases rx;exact SeqAt.EqAt.str_none a t'
   | bl b=>cases rx;exact SeqAt.EqAt.str_bool a t' b
   | int b=>obtain⟨t,rfl⟩:=rx;exact SeqAt.EqAt.str_int a t' b t
   | str b=>obtain⟨t,rfl⟩:=rx;exact SeqAt.EqAt.str_str a t' b t
   | _=>exact absurd (show false=true from fx) Bool.false_ne_true
 | _=>exact absurd (show false=true from fy) Bool.false_ne_true
def eqU(x:V)(u:Value):Bool:=match u with
 | .none=>eqV .non x
 | .bool b=>eqV (.bl b) x
 | .int i _=>eqV (.int i) x
 | .str z _=>eqV (.str z) x
 | _=>false
theorem cA8{x y:V}{u:Value}(r:eG y u)(f:qX y=true):eqU x u=eqV y x:=by
 cases y with
 | non=>cases r;rfl
 | bl b=>cases r;rfl
 | int i=>obtain⟨t,rfl⟩:=r;rfl
 | str z=>obtain⟨t,rfl⟩:=r;rfl
 | _=>exact absurd (show false=true from f) Bool.false_ne_true
theorem zN{x:V}:∀ {xs:List V} {us:List Value},cF xs us->xs.all qX=true->us.any (eqU x)=xs.any fun y=>eqV y x
 | _,_,.nil,_=>rfl
 | y::xs,u::us,.cons r t,f=>by
   rw[List.all_cons,Bool.and_eq_true]at f
   rw[List.any_cons,List.any_cons,cA8 r f.1,zN t f.2]
theorem uK{A:Around}{s:Shared}{x:V}{v:Value}(rx:eG x v)(fx:qX x=true):∀ {xs:List V} {us:List Value},cF xs us->xs.all qX=true->∀ u∈us,SeqAt.EqAt A s u v (eqU x u)
 | _,_,.nil,_=>fun u hu=>by cases hu
 | y::xs,u::us,.cons r t,f=>fun u' hu=>by
   rw[List.all_cons,Bool.and_eq_true]at f
   rcases List.mem_cons.mp hu with rfl | hu
   ·rw[cA8 r f.1];exact cT7 r rx f.1 fx
   ·exact uK rx fx t f.2 u' hu
def inV(x:V)(xs:List V):Bool:=xs.any fun y=>eqV y x
def rIn(K:PySem.W.Frag)(neg:Bool):R2:=fun x y H Q=>∃ p xs,y=.ref p/\(SqL K H p xs\/SqT K H p xs)/\qX x=true/\xs.all qX=true/\Q (.bl (if neg then !inV x xs else inV x xs)) H
theorem aT3:OpR X (compareOp .In) (rIn X.K false):=by
 intro pins s σ H x y v u Q I rx ry h
 obtain⟨p,xs,rfl,hq,fx,fs,q⟩:=h
 cases ry
 rcases hq with hq | hq
 ·obtain⟨its,r,pl,hz⟩:=I.list hq
  refine SeqAt.in_listAt (eqU x) pl.isList (fun w hw=>uK rx fx r fs w (by simpa using hw)) ⟨.bl _,H,I,rfl,?_⟩
  rw[show its.toArray.any (eqU x)=its.any (eqU x) by simp,zN r fs]
  exact q
 ·obtain⟨its,r,pl,hz⟩:=I.tuple hq
  refine SeqAt.in_tupleAt (eqU x) pl (fun w hw=>uK rx fx r fs w (by simpa using hw)) ⟨.bl _,H,I,rfl,?_⟩
  rw[show its.toArray.any (eqU x)=its.any (eqU x) by simp,zN r fs]
  exact q
theorem oP:kW X (.builtin "len") (fun xs H Q=>∃ p ys,xs=[.ref p]/\(SqL X.K H p ys\/SqT X.K H p ys)/\Q (.int ys.length) H):=by
 intro pins s σ H xs us Q I r h
 obtain⟨p,ys,rfl,hq,q⟩:=h
 obtain⟨u,rfl,rx⟩:=zL r
 cases rx
 have hn:=qT
 rcases hq with hq | hq
 ·obtain⟨its,r',pl,hz⟩:=I.list hq
  have hlen:=r'.length
  exact Calls.call_len_list pl.isList (by simp only[List.size_toArray]<;>omega) ⟨.int ys.length,H,I.tok _,⟨s.toks+1,by rw[List.size_toArray,hlen]⟩,q⟩
 ·obtain⟨its,r',pl,hz⟩:=I.tuple hq
  have hlen:=r'.length
  exact len_tuple pl (by simp only[List.size_toArray]<;>omega) ⟨.int ys.length,H,I.tok _,⟨s.toks+1,by rw[List.size_toArray,hlen]⟩,q⟩
theorem xP:kW X (.builtin "len") (fun xs H Q=>∃ z,xs=[.str z]/\z.length<=sizeLine/\Q (.int z.length) H):=by
 intro pins s σ H xs us Q I r h
 obtain⟨z,rfl,hz,q⟩:=h
 obtain⟨u,rfl,t,rfl⟩:=zL r
 have hn:=qT
 exact len_str (by omega) ⟨.int z.length,H,I.tok _,⟨_,rfl⟩,q⟩
theorem oQ:kW X (.type "list") (fun xs H Q=>∃ p ys,xs=[.ref p]/\(SqL X.K H p ys\/SqT X.K H p ys)/\∀ l,H l=none->Q (.ref l) (upd H l (.lst ys))):=by
 intro pins s σ H xs us Q I r h
 obtain⟨p,ys,rfl,hq,q⟩:=h
 obtain⟨u,rfl,rx⟩:=zL r
 cases rx
 have fin:∀ (its:List Value),cF ys its->ys.length<=sizeLine->∀ (h':Heap) (c':Nat),(∀ b o',s.heap.get? b=some o'->h'.get? b=some o') ->
   h'.get? s.heap.objs.size=some {cls:=.type "list",dict:=none,data:=.seq its.toArray c',slots:=#[]}->EP X pins σ Q (.ref s.heap.objs.size) {s with heap:=h'}:=fun its r' hz h' c' kp e=>
  ⟨.ref s.heap.objs.size,_,I.laid (t':=s.toks) kp (Nat.le_refl _) (show dM X.prog X.w _ h' _ (.lst ys)from⟨hz,its,c',r',e⟩),rfl,q _ (I.hok.fresh (Nat.le_refl _))⟩
 rcases hq with hq | hq
 ·obtain⟨its,r',pl,hz⟩:=I.list hq
  have hlen:=r'.length
  obtain⟨o,ho,hc,n,hd⟩:=pl.isList
  exact call_list_seq p (.inl rfl) ho hc hd (fun h' c' kp e=>fin its r' hz h' c' kp e) (by simp only[List.size_toArray]<;>omega)
 ·obtain⟨its,r',pl,hz⟩:=I.tuple hq
  have hlen:=r'.length
  obtain⟨o,ho,hc,n,hd⟩:=pl
  exact call_list_seq p (.inr rfl) ho hc hd (fun h' c' kp e=>fin its r' hz h' c' kp e) (by simp only[List.size_toArray]<;>omega)
theorem mH:kW X (.type "tuple") (fun xs H Q=>∃ p ys,xs=[.ref p]/\((SqL X.K H p ys/\∀ l,H l=none->Q (.ref l) (upd H l (.tup ys)))\/(SqT X.K H p ys/\Q (.ref p) H))):=by
 intro pins s σ H xs us Q I r h
 obtain⟨p,ys,rfl,h⟩:=h
 obtain⟨u,rfl,rx⟩:=zL r
 cases rx
 rcases h with⟨hq,q⟩ | ⟨hq,q⟩
 ·obtain⟨its,r',pl,hz⟩:=I.list hq
  have hlen:=r'.length
  refine call_tuple_list pl.isList (fun h' kp=>?_) (by simp only[List.size_toArray]<;>omega)
  have I1:Inv X pins σ H {s with heap:=h'}:=I.kept (t':=s.toks) kp
  have I2:Inv X pins σ (upd H h'.objs.size (.tup ys)) {s with heap:=h'.push {cls:=.type "tuple",data:=.seq its.toArray}}:=
   I1.laid (t':=s.toks) (fun b o e=>Heap.get?_push_of_some _ e) (Nat.le_refl _) (show dM X.prog X.w _ _ _ (.tup ys)from⟨hz,its,r',IsTup.new _ _,⟨_,Heap.get?_push_size _ rfl,rfl⟩⟩)
  exact⟨.ref h'.objs.size,_,I2,rfl,q _ (I1.hok.fresh (Nat.le_refl _))⟩
 ·obtain⟨its,r',pl,hz⟩:=I.tuple hq
  exact call_tuple_same pl ⟨.ref p,H,I,rfl,q⟩
def tyV(K:PySem.W.Frag)(T:String)(x:V)(H:Hp):Prop:=match x with
 | .str _=>T="str"
 | .int _=>T="int"
 | .ref p=>(T="list"/\∃ xs,SqL K H p xs)\/(T="tuple"/\∃ o,K.lookup p=some o/\o.cls=.type "tuple"/\o.dict=none) \/
   (T="dict"/\((∃ kvs,H p=some (.dK kvs))\/∃ kvs,H p=some (.dT kvs)))\/(T="set"/\∃ S n,H p=some (.set S n))
 | _=>False
theorem cA9{pins:List (Addr×Obj)}{σ:St}{H:Hp}{s:Shared}{T:String}{x:V}{v:Value}(I:Inv X pins σ H s)(r:eG x v)(ty:tyV X.K T x H) :
  s.TypeIs v T/\∀ a,v=.ref a->∃ ob,s.heap.get? a=some ob/\ob.dict=none:=by
 cases x with
 | str z=>
   obtain⟨t,rfl⟩:=r
   cases (show T="str" from ty)
   exact⟨typeIs_str s z t,fun _ e=>nomatch e⟩
 | int i=>
   obtain⟨t,rfl⟩:=r
   cases (show T="int" from ty)
   exact⟨typeIs_int s i t,fun _ e=>nomatch e⟩
 | ref p=>
   cases r
   rcases ty with⟨rfl,xs,hq⟩ | ⟨rfl,o,hk,hc,hd⟩ | ⟨rfl,hk⟩ | ⟨rfl,S,n,hk⟩
   ·obtain⟨its,_,pl,_⟩:=I.list hq
    refine⟨pl.isList.typeIs,fun a e=>?_⟩
    cases e
    obtain⟨o,n,e,c,hd,_⟩:=pl
    exact⟨o,e,hd⟩
   ·refine⟨⟨o,I.kIn p o hk,hc⟩,fun a e=>?_⟩
    cases e
    exact⟨o,I.kIn _ o hk,hd⟩
   ·have z:∃ o,s.heap.get? p=some o/\o.ExactDict:=by
     rcases hk with⟨kvs,hk⟩ | ⟨kvs,hk⟩
     ·obtain⟨_,_,_,_,o,_,_,e,ex,_⟩:=I.hok p _ hk
      exact⟨o,e,ex⟩
     ·obtain⟨_,_,_,_,o,_,_,e,ex,_⟩:=I.hok p _ hk
      exact⟨o,e,ex⟩
    obtain⟨o,e,ex⟩:=z
    refine⟨⟨o,e,ex.1⟩,fun a e2=>?_⟩
    cases e2
    exact⟨o,e,ex.2.1⟩
   ·obtain⟨o,_,_,_,e,ex,_⟩:=I.hok p _ hk
    refine⟨⟨o,e,ex.1⟩,fun a e2=>?_⟩
    cases e2
    exact⟨o,e,ex.2.1⟩
 | _=>exact False.elim ty
def dF2(K:PySem.W.Frag)(T:String)(r:V->List V->Hp->VK->Prop)(to:TE):TE:=fun σ H Q=>to σ H fun x H1=>tyV K T x H1/\r x [] H1 Q
def tBM(K:PySem.W.Frag)(T:String)(r:V->List V->Hp->VK->Prop)(to:TE)(t:TA):TE:=fun σ H Q=>to σ H fun x H1=>tyV K T x H1/\t σ H1 fun xs H2=>r x xs H2 Q
variable{o e:Expr}{es:List Expr}{to:TE}{t:TA}{name:Str}{apos cpos:Pos}{T id:String}{r:V->List V->Hp->VK->Prop}
theorem cT8(pa:PlainAttrs T)(slot:Slot T name id)(hty:typeOf (.builtin id)=pure (.type "method_descriptor"))(hm:MtR X id r)(ho:PE X o to)
  (hbase:attributeBase o name X.env (eval o X.env)=eval o X.env:=by rfl) (hline:(apos.endLine==cpos.line)=true:=by rfl):PE X (.Call (.Attribute o name apos) [] [] cpos) (dF2 X.K T r to):=by
 intro pins s σ H Q I h
 refine wpAny_Call_method0_late hbase hline (thn (ho pins s σ H _ I h) fun v s1 ⟨x,H1,I1,r1,ty,q1⟩=>?_)
 obtain⟨h1,h2⟩:=cA9 I1 r1 ty
 exact⟨T,id,pa,slot,hty,h1,h2,Calls.callWith_builtin rfl (PySem.evalArgs_none (hm pins s1 σ H1 x [] v [] Q I1 r1 .nil q1))⟩
theorem dF3(pa:PlainAttrs T)(slot:Slot T name id)(hty:typeOf (.builtin id)=pure (.type "method_descriptor"))(hm:MtR X id r)(ho:PE X o to)(ha:PA X (e::es) t)
  (hbase:attributeBase o name X.env (eval o X.env)=eval o X.env:=by rfl)
  (hfew:((backTo cpos (starEach (e::es) X.env)).all (fun x=>!x.1)&&(backToKw cpos (keywordEach [] X.env)).all (fun x=>x.1.isSome)
   && decide ((e::es).length+([]:List Keyword).length+(if([]:List Keyword).isEmpty then 0 else 1) < 30))=true:=by rfl)
  (hline:(apos.endLine==cpos.line)=true:=by rfl) (hs:starEach (e::es) X.env=(false,eval e X.env)::starEach es X.env:=by rfl) (hplain:(backTo cpos (starEach es X.env)).any (·.1)=false:=by rfl) :
  PE X (.Call (.Attribute o name apos) (e::es) [] cpos) (tBM X.K T r to t):=by
 intro pins s σ H Q I h
 refine wpAny_Call_method_late hbase hfew hline rfl (thn (ho pins s σ H _ I h) fun v s1 ⟨x,H1,I1,r1,ty,q1⟩=>?_)
 obtain⟨h1,h2⟩:=cA9 I1 r1 ty
 refine⟨T,id,pa,slot,hty,h1,h2,?_⟩
 have hA:=ha cpos pins s1 σ H1 _ I1 q1
 rw[hs]at hA ⊢
 refine Calls.callWith_builtin (by show(false||(backTo cpos (starEach es X.env)).any (·.1))=false;rw[hplain]<;>rfl) (Calls.evalArgs_plain ?_)
 exact thn hA fun us s2 ⟨vs,H2,I2,r2,q2⟩=>hm pins s2 σ H2 x vs v us Q I2 r1 r2 q2
end
end L2
namespace L2
open PySem PySem.Spec PyProof.Rows
def MtM(X:Cx)(id:String)(r:V->List V->Hp->VK->Prop):Prop:=
 ∀ (pins:List (Addr×Obj)) (s:Shared) (σ:St) (H:Hp) (x:V) (xs:List V) (v:Value) (us:List Value) (Q:VK),Inv X pins σ H s->eG x v->cF xs us->r x xs H Q ->
   wpAny (model X.prog X.w) X.A (call (.builtin id) (v::us)) (EP X pins σ Q) X.xe s
theorem cF.one:∀ {x:V} {us:List Value},cF [x] us->∃ u,us=[u]/\eG x u
 | _,_,.cons r .nil=>⟨_,rfl,r⟩
theorem cF.two:∀ {x y:V} {us:List Value},cF [x,y] us->∃ u v,us=[u,v]/\eG x u/\eG y v
 | _,_,_,.cons r (.cons q .nil)=>⟨_,_,rfl,r,q⟩
theorem cF.zero:∀ {us:List Value},cF [] us->us=[]
 | _,.nil=>rfl
theorem cF.dropLast{xs:List V}{us:List Value}(h:cF xs us):cF xs.dropLast us.dropLast:=by
 induction h with
 | nil=>exact .nil
 | cons r t ih=>
   cases t with
   | nil=>exact .nil
   | cons q t'=>exact .cons r ih
theorem cF.eraseIdx:∀ {xs:List V} {us:List Value} (i:Nat),cF xs us->cF (xs.eraseIdx i) (us.eraseIdx i)
 | _,_,_,.nil=>.nil
 | _,_,0,.cons _ t=>t
 | _,_,i+1,.cons r t=>.cons r (cF.eraseIdx i t)
theorem aN0{α:Type}(l:List α):l.eraseIdx (l.length-1)=l.dropLast:=by
 induction l with
 | nil=>rfl
 | cons a r ih=>
   cases r with
   | nil=>rfl
   | cons b r=>
     have e:(a::b::r).length-1=((b::r).length-1)+1:=by
      have h1:(a::b::r).length=r.length+2:=rfl
      have h2:(b::r).length=r.length+1:=rfl
      omega
     rw[e,List.eraseIdx_cons_succ,ih]
     all_goals rfl
theorem mI{α:Type}:∀ (l:List α) (i:Nat),(l.eraseIdx i).length<=l.length
 | [],_=>Nat.le_refl _
 | _::_,0=>Nat.le_succ _
 | _::r,i+1=>Nat.succ_le_succ (mI r i)
section
variable{X:Cx}{pins:List (Addr×Obj)}{σ:St}{H:Hp}{s:Shared}{l b:Addr}{xs ys zs:List V}
theorem Inv.lset{its its':List Value}{n:Nat}{f:Array Value->Array Value}{t':Nat}(I:Inv X pins σ H s)(hH:H l=some (.lst xs))
  (e:s.heap.get? l=some {cls:=.type "list",data:=.seq its.toArray n}) (hf:f its.toArray=its'.toArray) (hv:cF ys its') (hz:ys.length<=sizeLine) :
  Inv X pins σ (upd H l (.lst ys)) {s with heap:=s.heap.update l (Obj.mapSeq f),toks:=t'}:=by
 have q:=PySem.IsL.update e f
 rw[hf]at q
 refine I.write (x:=l) (e:=l) (by rw[hH];exact trivial) (.inl rfl) (fun b' u hb hu=>(Heap.get?_update_other s.heap (Obj.mapSeq f) (Ne.symm hb)).trans hu) ⟨_,q⟩ ?_
 exact⟨hz,its',_,hv,q⟩
theorem Inv.lnew{its:List Value}{t':Nat}(I:Inv X pins σ H s)(hv:cF ys its)(hz:ys.length<=sizeLine) :
  Inv X pins σ (upd H s.heap.objs.size (.lst ys)) {s with heap:=s.heap.push {cls:=.type "list",data:=.seq its.toArray},toks:=t'}:=
 I.laid (fun _ _ q=>Heap.get?_push_of_some _ q) (Nat.le_refl _) ⟨hz,its,0,hv,Heap.get?_push_size _ rfl⟩
theorem Inv.fresh(I:Inv X pins σ H s):H s.heap.objs.size=none:=I.hok.fresh (Nat.le_refl _)
theorem Inv.lstM(I:Inv X pins σ H s)(hH:H l=some (.lst xs)):xs.length<=sizeLine/\∃ (its:List Value) (n:Nat),cF xs its/\xs.length=its.length/\s.heap.get? l=some {cls:=.type "list",data:=.seq its.toArray n}:=by
 obtain⟨z,its,n,r,e⟩:=I.hok l _ hH
 exact⟨z,its,n,r,r.length,e⟩
theorem aG9{n:Nat}(h:n<=sizeLine):Builtin.List.listTooLong n=false:=by
 unfold Builtin.List.listTooLong
 exact decide_eq_false (by omega)
end
section
variable{X:Cx}
def aT4:V->List V->Hp->VK->Prop:=fun x vs H Q=>∃ l xs y,x=.ref l/\vs=[y]/\H l=some (.lst xs)/\xs.length < sizeLine/\Q .non (upd H l (.lst (xs++[y])))
theorem fW:MtM X "list.append" aT4:=by
 intro pins s σ H x vs v us Q I rx rv h
 obtain⟨l,xs,y,rfl,rfl,hH,hz,q⟩:=h
 cases rx
 obtain⟨u,rfl,ru⟩:=rv.one
 obtain⟨z,its,n,r,hl,e⟩:=I.lstM hH
 refine call_meets F.slot_list_append ⟨_,e,rfl⟩ F.entry_list_append (F.args_list_append_2 _ _) (PySem.list_append l its.toArray n u (by rw[List.size_toArray];omega)) ⟨e,?_⟩
 refine⟨.non,_,I.lset (its':=its++[u]) hH e (by simp) (r.append (.cons ru .nil)) ?_,rfl,q⟩
 rw[List.length_append,List.length_singleton]
 omega
def cG5:V->List V->Hp->VK->Prop:=fun x vs H Q=>∃ l b xs zs,x=.ref l/\vs=[.ref b]/\H l=some (.lst xs)/\H b=some (.lst zs)/\xs.length+zs.length<=sizeLine/\Q .non (upd H l (.lst (xs++zs)))
theorem cT9:MtM X "list.extend" cG5:=by
 intro pins s σ H x vs v us Q I rx rv h
 obtain⟨l,b,xs,zs,rfl,rfl,hH,hB,hz,q⟩:=h
 cases rx
 obtain⟨u,rfl,ru⟩:=rv.one
 cases ru
 obtain⟨z,its,n,r,hl,e⟩:=I.lstM hH
 obtain⟨z2,its2,n2,r2,hl2,e2⟩:=I.lstM hB
 have hsz:its.toArray.size+its2.toArray.size<=sizeLine:=by rw[List.size_toArray,List.size_toArray];omega
 have hlong:¬ (!its.toArray.isEmpty&&Builtin.List.listTooLong (its.toArray.size+its2.toArray.size))=true:=by
  rw[aG9 hsz,Bool.and_false]
  exact Bool.false_ne_true
 refine call_meets F.slot_list_extend ⟨_,e,rfl⟩ F.entry_list_extend (F.args_list_extend_2 _ _)
  (AutoSeq1.list_extend_list_list_0 l its.toArray n b its2.toArray n2 hlong (by rw[List.size_toArray];omega) (by omega)) ⟨e,e2,?_⟩
 refine⟨.non,_,I.lset (its':=its++its2) hH e (by simp) (r.append r2) ?_,rfl,q⟩
 rw[List.length_append]
 omega
def dM3:V->List V->Hp->VK->Prop:=fun x vs H Q=>∃ l xs y,x=.ref l/\vs=[]/\H l=some (.lst xs)/\xs[xs.length-1]? = some y/\Q y (upd H l (.lst xs.dropLast))
theorem cU0:MtM X "list.pop" dM3:=by
 intro pins s σ H x vs v us Q I rx rv h
 obtain⟨l,xs,y,rfl,rfl,hH,hy,q⟩:=h
 cases rx
 have hus:=rv.zero
 subst hus
 obtain⟨z,its,n,r,hl,e⟩:=I.lstM hH
 obtain⟨u,hu,ru⟩:=r.get hy
 have hy':its.toArray[its.toArray.size-1]? = some u:=by
  show its.toArray[its.length-1]? = some u
  rw[← Array.getElem?_toList,← hl]
  exact hu
 refine call_meets F.slot_list_pop ⟨_,e,rfl⟩ F.entry_list_pop (F.args_list_pop_1 _) (MeetsSeq.list_pop_last l its.toArray n u hy' (by rw[List.size_toArray];omega)) ⟨e,?_⟩
 refine⟨y,_,I.lset (its':=its.dropLast) hH e ?_ r.dropLast ?_,ru,q⟩
 ·show its.toArray.eraseIdxIfInBounds (its.toArray.size-1)=its.dropLast.toArray
  rw[List.size_toArray,List.eraseIdxIfInBounds_toArray,aN0]
 ·rw[List.length_dropLast]
  omega
def cU1:V->List V->Hp->VK->Prop:=fun x vs H Q=>∃ l xs i k y,x=.ref l/\vs=[.int i]/\H l=some (.lst xs) /\ -(2 ^ 63)<=i/\i < 2 ^ 63/\seqIndex? i xs.length=some k/\xs[k]? = some y/\Q y (upd H l (.lst (xs.eraseIdx k)))
theorem bP7:MtM X "list.pop" cU1:=by
 intro pins s σ H x vs v us Q I rx rv h
 obtain⟨l,xs,i,k,y,rfl,rfl,hH,h1,h2,hk,hy,q⟩:=h
 cases rx
 obtain⟨u,rfl,ru⟩:=rv.one
 obtain⟨t,rfl⟩:=ru
 obtain⟨z,its,n,r,hl,e⟩:=I.lstM hH
 obtain⟨w,hw,rw'⟩:=r.get hy
 refine call_meets F.slot_list_pop ⟨_,e,rfl⟩ F.entry_list_pop (F.args_list_pop_2 _ _)
  (MeetsSeq.list_pop_at l its.toArray n i t k w (fitsIndex_both h1 h2) (by rw[List.size_toArray,← hl];exact hk) (by rw[← Array.getElem?_toList];exact hw) (by rw[List.size_toArray];omega)) ⟨e,?_⟩
 refine⟨y,_,I.lset (its':=its.eraseIdx k) hH e ?_ (r.eraseIdx k) ?_,rw',q⟩
 ·show its.toArray.eraseIdxIfInBounds k=(its.eraseIdx k).toArray
  rw[List.eraseIdxIfInBounds_toArray]
 ·have:=mI xs k
  omega
def dM4:R2:=fun x y H Q=>∃ l b xs zs,x=.ref l/\y=.ref b/\H l=some (.lst xs)/\H b=some (.lst zs)/\xs.length+zs.length<=sizeLine/\∀ p,H p=none->Q (.ref p) (upd H p (.lst (xs++zs)))
theorem cU2:OpR X (binaryOp .Add) dM4:=by
 intro pins s σ H x y v u Q I rx ry h
 obtain⟨l,b,xs,zs,rfl,rfl,hH,hB,hz,q⟩:=h
 cases rx
 cases ry
 obtain⟨z,its,n,r,hl,e⟩:=I.lstM hH
 obtain⟨z2,its2,n2,r2,hl2,e2⟩:=I.lstM hB
 refine PySem.P.add_list e e2 ?_ (by rw[List.size_toArray,List.size_toArray];omega)
 have ea:its.toArray++its2.toArray=(its++its2).toArray:=by simp
 rw[ea]
 exact⟨.ref _,_,I.lnew (t':=s.toks) (r.append r2) (by rw[List.length_append];omega),rfl,q _ I.fresh⟩
end
section
variable{prog:Program}{w:World}{A:Around}{E:Value->Shared->Prop}{s:Shared}
set_option maxRecDepth 100000 in
end
section
variable{X:Cx}
end
end L2
namespace Att
open PySem PySem.W PySem.Calls PyProof.Rows
theorem qY{P:Params}{h:Heap}:∀ (ns:List Int) (vs:List Value),WellAll P h vs (ns.map WData.int)->IntsAre vs ns:=by
 intro ns
 induction ns with
 | nil=>
   intro vs w
   rw[List.map_nil]at w
   cases w
   exact .nil
 | cons n ns ih=>
   intro vs w
   rw[List.map_cons]at w
   cases w with
   | cons a b=>
     cases a
     exact .cons _ _ (ih _ b)
theorem aT5{l:OpenLaw}{n:Nat}(hn:l.most=some n){P:Params}{h:Heap}{args:List WData}{vals:List Value}
  (hpre:l.row.toRowW.claim.pre args=true) (hwl:WellAll P h vals args) :
  ∃ a vs ns,vals=[Value.ref a]/\args=[WData.list (ns.map WData.int)]/\h.get? a=some {cls:=.type "list",data:=.seq vs.toArray}/\IntsAre vs ns/\ns.length<=n:=by
 have hsh:WShape.hasAll [] args [.list .int]=true:=(pre_splitW hpre).1
 have hc:l.pre.holds [] {args:=args}=true:=(pre_splitW hpre).2
 obtain⟨d,r,rfl,h1,h2⟩:=hasAllW_cons hsh
 obtain rfl:=hasAllW_nil h2
 obtain⟨xs,rfl,h3⟩:=hasW_list h1
 obtain⟨ns,rfl⟩:=items_int h3
 have hlen:ns.length<=n:=by
  unfold OpenLaw.pre at hc
  have h4:(WTm.not (.lt (.lit (.int (n:Int))) (.len (.arg 0)))).holds [] {args:=[.list (ns.map .int)]}=true:=by
   have h4:=(holds_andW hc).1
   rw[hn]at h4
   exact h4
  have h5:=condW_of h4 (w_not (w_lt w_lit (w_len_list (w_arg rfl))))
  rw[List.length_map]at h5
  refine Nat.le_of_not_lt fun q=>?_
  have q':(n:Int) < ((ns.length:Nat):Int):=by omega
  first
   | (rw[decide_eq_true q']at h5;exact absurd h5 (by decide))
   | (simp at h5;omega)
 cases hwl with
 | cons w1 w2=>
   cases w2
   cases w1 with
   | list ho hall=>exact⟨_,_,ns,rfl,rfl,ho,qY ns _ hall,hlen⟩
theorem aT6(l:OpenLaw)(args:List WData):l.row.toRowW.claim.post args (.bool true) args=true:=
 postW_of (r:=l.row.toRowW) (X:=(true==true))
  (show WShape.has [] (.bool true) .bool=true by first | rfl | decide | simp[WShape.has,WShape.arms,WShape.armsAll])
  (show(WTm.eq .res (.lit (.bool true))).value [] {args:=args,res:=some (.bool true),after:=args}=some (.bool (true==true))from w_eq_bool (w_res rfl) w_lit) rfl
theorem attach_call{l:OpenLaw}{n:Nat}{q:Program}{loose:List Str}{XP:(Str->Option Value)->Heap->Prop}{YP:World->Heap->Prop}{d:DefRec}
  (hn:l.most=some n) (hdf:d.params.defaults=[])
  (call:∀ (w:World) (s₀ s₁:Shared) (mg mb:Str->Option Value) (fa:Addr) (o:Obj) (pm cd doc:Value) (a:Addr) (vs:List Value) (ns:List Int),
   Ground q loose [] XP w s₀ mg mb s₁.heap->YP w s₁.heap ->
   s₁.heap.get? fa=some o->o.data=.func (docDef d.name d.params d.body d.scope pm cd doc)->s₁.heap.CodeRec cd d.name->mg d.name=some (.ref fa) ->
   s₁.heap.get? a=some {cls:=.type "list",data:=.seq vs.toArray}->IntsAre vs ns->ns.length<=n->s₁.gens=#[] ->
   codeAny (model l.prog w) callerA (.call (.ref fa) ⟨[.ref a],[]⟩) (fun r s'=>r=.ok (.ret (.bool true))/\OldK s₁.heap s'.heap/\s'.os=s₁.os/\AllBare s'.gens) s₁) :
  WalkO q loose XP YP l.row.toRowW d [] (fun f vs=>PySem.call f vs):=by
 intro w s₀ s₁ mg mb G Y fa o pm cd doc dV kV ho hd hcd hD hmg hg args vals as hpre hlay hrd hwl hlo
 obtain rfl:dV=.none:=Dflts.none hD hdf
 obtain rfl:kV=.none:=Dflts.noKw hD
 obtain⟨a,vs,ns,rfl,rfl,hobj,hints,hlen⟩:=aT5 hn hpre hwl
 refine enter_call (codeAny_mono (call w s₀ s₁ mg mb fa o pm cd doc a vs ns G Y ho (fd_plain hd) hcd hmg hobj hints hlen hg) fun r s' hq=>?_)
 obtain⟨rfl,h2,h3,h4⟩:=hq
 exact⟨.inl ⟨.bool true,.bool true,[],rfl,fun _=>rfl,.bool true,aT6 l _,fun _=>⟨List.Pairwise.nil,fun _ hm=>(nomatch hm)⟩⟩,h2,h3,h4⟩
section
variable{prog:Program}{w:World}{A:Around}{E:Value->Shared->Prop}{s:Shared}{K:Frag}
end
end Att
namespace L2
open PySem PySem.Spec PyProof.Rows
theorem xQ:∀ {vs:List Value} {ns:List Int},IntsAre vs ns->cF (ns.map V.int) vs
 | _,_,.nil=>.nil
 | _,_,.cons n t h=>.cons ⟨t,rfl⟩ (xQ h)
def cU3(H:Hp):Prop:=∀ b,H b=none\/∃ o xs,H b=some (.frz o (.lst xs))
theorem bP8{P:Program}{w:World}{K:PySem.W.Frag}{mg mb:Str->Option Value}{CX:CXT}{k:Nat}{fa a:Addr}{fd:FuncData}{x:Str}{sp:Sp}{s₁:Shared}{vs:List Value}{ns:List Int}
  (KX:K.In s₁.heap) (hns:s₁.heap.Ns mainGlobals mg) (hb:s₁.heap.Ns builtinsNs mb) (hbb:∀ x:Str,x≠"__name__"->mb x=bootBuiltins x) (hlim:s₁.heap.NoLimit) (hg:s₁.gens=#[])
  (ha:s₁.heap.get? a=some {cls:=.type "list",data:=.seq vs.toArray}) (hi:IntsAre vs ns) (hl:ns.length<=sizeLine) (hr:Room k callerA)
  (F:∀ base:Heap,K.In base->base.Ns mainGlobals mg->FnOk P w K mg base CX k fa fd [x] sp) (hbind:∀ (s:Shared) (u:Value),BindsTo s fd ⟨[u],[]⟩ [(x,u)])
  (hsp:∀ H:Hp,cU3 H->SqL K H a (ns.map V.int)->sp [.ref a] H (fun v _=>v=.bl true) fun _ _ _=>False)
  (hCX:∀ H e s',CX [] H s₁ (fun _ _ _=>False) e s'->False) :
  codeAny (model P w) callerA (.call (.ref fa) ⟨[.ref a],[]⟩) (fun r s'=>r=.ok (.ret (.bool true))/\OldK s₁.heap s'.heap/\s'.os=s₁.os/\AllBare s'.gens) s₁:=by
 have rv:=xQ hi
 have lenV:=hi.length
 -- from an abstract heap in which nothing but the script may be tracked
 have core:∀ H:Hp,cU3 H->SqL K H a (ns.map V.int)->HOk P w H s₁.heap->(∀ b,H b≠none->b=a)->(H a≠none->K.lookup a=none) ->
   codeAny (model P w) callerA (.call (.ref fa) ⟨[.ref a],[]⟩) (fun r s'=>r=.ok (.ret (.bool true))/\OldK s₁.heap s'.heap/\s'.os=s₁.os/\AllBare s'.gens) s₁:=by
  intro H hO hS hok hA hK
  have base_of:∀ {b:Addr} {o:Obj},s₁.heap.get? b=some o->H b=none->(bO5 s₁.heap H).get? b=some o:=fun e n=>bO6 e n
  have noA:∀ {b:Addr} {o:Obj} {es:Array DictEntry} {ep:Nat},s₁.heap.get? b=some o->o.data=.dict es ep->H b=none:=fun{b o es ep} e d=>by
   cases q:H b with
   | none=>rfl
   | some u=>
     have e':b=a:=hA b (by rw[q];simp)
     subst e'
     rw[ha]at e;cases e
     have d':Data.seq vs.toArray _=Data.dict es ep:=d
     cases d'
  have nsK:∀ {b:Addr} {m:Str->Option Value},s₁.heap.Ns b m->(bO5 s₁.heap H).Ns b m:=fun{b m} ⟨o,es,ep,e,d,r⟩=>⟨o,es,ep,base_of e (noA e d),d,r⟩
  have hKb:K.In (bO5 s₁.heap H):=fun b o e=>base_of (KX b o e) (by
   cases q:H b with
   | none=>rfl
   | some u=>
     have e':b=a:=hA b (by rw[q];simp)
     subst e'
     rw[hK (by rw[q];simp)]at e;cases e)
  have hM:Mod K mg (bO5 s₁.heap H):=⟨hKb,nsK hns,⟨mb,nsK hb,hbb⟩,let ⟨mc,h1,h2⟩:=hlim;⟨mc,nsK h1,h2⟩⟩
  have e0:Env0 P w K mg (bO5 s₁.heap H) callerA [] s₁ H:=⟨rfl,hM,fun b o e=>cF0 e,Nat.le_of_eq (aR1 _ _),trivial,fun b hb=>absurd (show b∈([]:List Addr)from hb) (by simp),hok,.of_eq hg⟩
  refine codeAny_mono ((F _ hKb (nsK hns)).run callerA [] s₁ H ⟨[.ref a],[]⟩ [.ref a] [.ref a] _ _ hr e0 (hbind s₁ (.ref a)) (.cons rfl .nil) (hsp H hO hS)) fun r s' h=>?_
  cases r with
  | error e=>exact(hCX H e s' h).elim
  | ok fl=>
    cases fl with
    | next=>exact False.elim h
    | brk=>exact False.elim h
    | cont=>exact False.elim h
    | ret u=>
      obtain⟨v,H',os,bare,un,hok',r',q⟩:=h
      have q':v=.bl true:=q
      subst q'
      obtain rfl:u=Value.bool true:=r'
      refine⟨rfl,OldK.of_keep fun b o e=>?_,os,bare⟩
      cases q:H b with
      | none=>exact un.keep b o e q (by intro z;exact absurd (show b∈([]:List Addr)from z) (by simp)) (by simp)
      | some u=>
        rcases hO b with z | ⟨ob,xs,z⟩
        ·rw[q]at z;cases z
        ·have z2:=un.frzs b ob _ z
         obtain⟨e1,_⟩:=hok b _ z
         obtain⟨e2,_⟩:=hok' b _ z2
         rw[e]at e1;cases e1
         exact e2
 cases hk:K.lookup a with
 | some o=>
   -- the script is one of the module's own objects
   have e:=KX a o hk
   rw[ha]at e
   cases e
   refine core (fun _=>none) (fun _=>.inl rfl) (.inr ⟨_,vs.toArray,_,hk,rfl,rfl,rfl,by rw[List.size_toArray,lenV];exact hl,by simpa using rv⟩) (fun b u z=>by have z':(none:Option HO)=some u:=z;cases z') (fun b z=>absurd rfl z) fun z=>absurd rfl z
 | none=>
   refine core (fun b=>if b=a then some (.frz {cls:=.type "list",data:=.seq vs.toArray} (.lst (ns.map V.int)))else none) (fun b=>?_) (.inl (.inr ⟨{cls:=.type "list",data:=.seq vs.toArray},if_pos rfl⟩)) (fun b u z=>?_) (fun b z=>?_) fun _=>hk
   ·by_cases hb:b=a
    ·exact .inr ⟨_,_,if_pos hb⟩
    ·exact .inl (if_neg hb)
   ·by_cases hb:b=a
    ·have z':=(if_pos hb).symm.trans z
     cases z'
     subst hb
     exact⟨ha,by rw[List.length_map];exact hl,vs,_,rv,ha⟩
    ·have z':=(if_neg hb).symm.trans z
     cases z'
   ·by_cases hb:b=a
    ·exact hb
    ·exact absurd (if_neg hb) z
end L2
namespace L2
open PySem PySem.Spec PyProof.Rows
theorem cG6{l:PySem.W.OpenLaw}{n k:Nat}{q:Program}{loose:List Str}{XP:(Str->Option Value)->Heap->Prop}{YP:World->Heap->Prop}{d:DefRec}{K:Params->PySem.W.Frag}{CX:World->CXT}{sp:World->Sp}{x:Str}
  (hn:l.most=some n) (hn2:n<=sizeLine) (hdf:d.params.defaults=[]) (hr:Room k callerA)
  (hY:∀ (w:World) (h:Heap),YP w h->(K w.params).In h)
  (F:∀ (w:World) (mg:Str->Option Value) (fa:Addr) (h:Heap),(K w.params).In h->h.Ns mainGlobals mg->mg d.name=some (.ref fa) ->
   ∃ fd:FuncData,(∀ (s:Shared) (u:Value),BindsTo s fd ⟨[u],[]⟩ [(x,u)]) /\
     ∀ base:Heap,(K w.params).In base->base.Ns mainGlobals mg->FnOk l.prog w (K w.params) mg base (CX w) k fa fd [x] (sp w))
  (hsp:∀ (w:World) (H:Hp) (a:Addr) (ns:List Int),ns.length<=n->cU3 H->SqL (K w.params) H a (ns.map V.int)->sp w [.ref a] H (fun v _=>v=.bl true) fun _ _ _=>False)
  (hCX:∀ (w:World) (H:Hp) (s:Shared) (e:Value) (s':Shared),CX w [] H s (fun _ _ _=>False) e s'->False) :
  PySem.W.WalkO q loose XP YP l.row.toRowW d [] (fun f vs=>PySem.call f vs):=by
 refine Att.attach_call hn hdf fun w s₀ s₁ mg mb fa o pm cd doc a vs ns G Y ho hd hcd hmg hobj hints hlen hg=>?_
 have KX:=hY w _ Y
 obtain⟨fd,hb,hF⟩:=F w mg fa _ KX G.T.g hmg
 exact bP8 KX G.T.g G.T.b G.T.builtins G.T.nolimit hg hobj hints (Nat.le_trans hlen hn2) hr hF hb (fun H hO hS=>hsp w H a ns hlen hO hS) fun H e s'=>hCX w H s₁ e s'
end L2
namespace L2
open PySem PySem.Spec PyProof.Rows
def zO(s:Stmt):Arguments:=match s with
 | .FunctionDef _ a _ _ _ _ _ _ _ _=>a
 | _=>{posonlyargs:=[],args:=[],vararg:=none,kwonlyargs:=[],kw_defaults:=[],kwarg:=none,defaults:=[]}
def jP(s:Stmt):List Stmt:=match s with
 | .FunctionDef _ _ b _ _ _ _ _ _ _=>b
 | _=>[]
def aP(s:Stmt):Scope:=match s with
 | .FunctionDef _ _ _ _ _ _ sc _ _ _=>sc
 | _=>{kind:=.function,names:=[],isGenerator:=false,isCoroutine:=false}
abbrev CX0:CXT:=fun _ _ _ _ _ _=>False
abbrev E0:XK:=fun _ _ _=>False
theorem bE{X:Cx}:xJ CX0 X E0:=fun _ _ _ _ _ _ _ h=>h.elim
structure Fun(K:PySem.W.Frag)(x qual:Str)(st:Stmt)(f:Addr)(fd:FuncData):Prop where
 ex:∃ (oc:Value) (od:Option Addr) (kV doc pm:Value) (an:Option Addr) (cdv ct:Value) (osl:Array (Option Value)),
  fd=PySem.W.fnOf x qual (zO st) (jP st) (aP st) .none kV doc pm an cdv ct/\K.lookup f=some ⟨oc,od,.func fd,osl⟩/\PySem.W.codeIn K cdv qual=true
 kp:PySem.W.keepIn K (.ref f)=true
section
variable{P:Program}{w:World}{K:PySem.W.Frag}{mg:Str->Option Value}{base:Heap}
theorem Fun.ok{x qual:Str}{st:Stmt}{f:Addr}{fd:FuncData}{N ps:List Str}{k:Nat}{sp:Sp}(F:Fun K x qual st f fd)(S:FnScope N ps (aP st))(len:∀ vs H Q E,sp vs H Q E->vs.length=ps.length)
  (hbody:∀ (cdv:Value) (A:Around) (outer:List Env) (s:Shared) (H:Hp) (vs:List V) (Q:VK) (E:XK),Room k (A.deeper (envOfC qual (aP st) s.heap.objs.size f cdv))->sp vs H Q E ->
   ∃ t,PSs (zJ CX0 P w K mg base N qual (aP st) f cdv A outer s H E).nox (jP st) t/\t {nx:=fun _ H'=>Q .non H',rt:=Q} (dJ N vs) H):FnOk P w K mg base CX0 (k+1) f fd ps sp:=by
 obtain⟨oc,od,kV,doc,pm,an,cdv,ct,osl,rfl,lk,hcd⟩:=F.ex
 refine cT0 lk hcd S len fun A outer s H vs Q E hr hsp=>?_
 obtain⟨t,h,q⟩:=hbody cdv A outer s H vs Q E hr hsp
 exact⟨t,h.nox,q⟩
theorem Fun.binds{x qual:Str}{st:Stmt}{f:Addr}{fd:FuncData}{ps:List Str}(F:Fun K x qual st f fd)
  (h:∀ (kV doc pm:Value) (an:Option Addr) (cdv ct:Value) (us:List Value),us.length=ps.length->bindArgs (PySem.W.fnOf x qual (zO st) (jP st) (aP st) .none kV doc pm an cdv ct) ⟨us,[]⟩=pure (ps.zip us)):dR K fd ps []:=by
 obtain⟨oc,od,kV,doc,pm,an,cdv,ct,osl,rfl,lk,hcd⟩:=F.ex
 exact .all (h kV doc pm an cdv ct)
end
section
variable{X:Cx}
theorem pv(i:Nat){x:Str}{pos:Pos}(hN:X.N[i]? = some x:=by rfl)(hv:Vis X.env.scope x:=by first | exact Or.inl rfl | exact Or.inr (Or.inl rfl) | exact Or.inr (Or.inr rfl))(hd:(x==("__debug__":Str))=false:=by decide)
  (hcd:(x==("__classdict__":Str))=false:=by decide):PE X (.Name x pos) (aG5 i):=cR3 hN hv hd hcd
end
theorem cU4{A B:Prop}(h:B):if false=true then A else B:=by
 rw[if_neg Bool.false_ne_true]
 exact h
theorem tG{c A B:Prop}[Decidable c](h1:c->A)(h2:¬ c->B):if c then A else B:=by
 by_cases h:c
 ·rw[if_pos h]
  exact h1 h
 ·rw[if_neg h]
  exact h2 h
def lX(H H':Hp):Prop:=∀ b o,H b=some o->H' b=some o
theorem lX.refl(H:Hp):lX H H:=fun _ _ h=>h
theorem lX.trans{H H1 H2:Hp}(a:lX H H1)(b:lX H1 H2):lX H H2:=fun c o h=>b c o (a c o h)
end L2
namespace L2
open PySem PySem.Spec PyProof.Rows
theorem aN1{scope:Scope}{env:Env}(h:∀ y∈scope.names,y.2=.free->∃ c,env.cells.lookup y.1=some c) :
  ∃ cl:List (Str×Addr),closureFor scope env=pure cl/\(∀ x c,cl.lookup x=some c->env.cells.lookup x=some c)/\∀ y∈scope.names,y.2=.free->∃ c,cl.lookup y.1=some c:=by
 have key:∀ (l:List (Str×NameKind)) (acc:List (Str×Addr)),(∀ y∈l,y.2=.free->∃ c,env.cells.lookup y.1=some c)->(∀ x c,acc.lookup x=some c->env.cells.lookup x=some c) ->
   ∃ cl:List (Str×Addr),((forIn l acc fun(x:Str×NameKind) (r:List (Str×Addr))=>if(x.2==NameKind.free)=true then do let a ← cellOf env x.1;pure (ForInStep.yield ((x.1,a)::r))else pure (ForInStep.yield r)):Sem (List (Str×Addr)))=pure cl /\
     (∀ x c,cl.lookup x=some c->env.cells.lookup x=some c)/\(∀ x c,acc.lookup x=some c->∃ d,cl.lookup x=some d)/\∀ y∈l,y.2=.free->∃ c,cl.lookup y.1=some c:=by
  intro l
  induction l with
  | nil=>intro acc _ ha;exact⟨acc,rfl,ha,fun x c e=>⟨c,e⟩,fun _ hy=>nomatch hy⟩
  | cons y r ih=>
    intro acc hl ha
    obtain⟨n,k⟩:=y
    rw[List.forIn_cons]
    by_cases hk:(k==NameKind.free)=true
    ·have hk':k=.free:=by simpa using hk
     obtain⟨c,hc⟩:=hl (n,k) List.mem_cons_self hk'
     have e1:cellOf env n=pure c:=by unfold cellOf;rw[hc]
     obtain⟨cl,e,p1,p2,p3⟩:=ih ((n,c)::acc) (fun y hy=>hl y (List.mem_cons_of_mem _ hy)) (fun x d e=>by
      rw[List.lookup_cons]at e
      split at e
      ·rename_i hx
       have:x=n:=by simpa using hx
       cases e;rw[this];exact hc
      ·exact ha x d e)
     have has:∃ d,cl.lookup n=some d:=p2 n c (by rw[List.lookup_cons];simp)
     refine⟨cl,?_,p1,fun x d e=>?_,fun y hy hf=>?_⟩
     ·simp only[hk,if_true,e1]
      exact e
     ·by_cases hx:x=n
      ·subst hx;exact has
      ·exact p2 x d (by rw[List.lookup_cons];have:(x==n)=false:=by simpa using hx
                        rw[this];exact e)
     ·rcases List.mem_cons.mp hy with rfl | hy
      ·exact has
      ·exact p3 y hy hf
    ·obtain⟨cl,e,p1,p2,p3⟩:=ih acc (fun y hy=>hl y (List.mem_cons_of_mem _ hy)) ha
     refine⟨cl,?_,p1,p2,fun y hy hf=>?_⟩
     ·simp only[hk]
      exact e
     ·rcases List.mem_cons.mp hy with rfl | hy
      ·exact absurd (by simpa using hf) hk
      ·exact p3 y hy hf
 obtain⟨cl,e,p1,_,p3⟩:=key scope.names [] h (fun x c e=>nomatch e)
 refine⟨cl,?_,p1,p3⟩
 unfold closureFor
 simp only[bind_pure]
 exact e
theorem jQ{α:Type}{x n:Str}{v:α}{r:List (Str×α)}(h:(x==n)=true):List.lookup x ((n,v)::r)=some v:=by rw[List.lookup_cons,h]
theorem eX{α:Type}{x n:Str}{v:α}{r:List (Str×α)}(h:(x==n)=false):List.lookup x ((n,v)::r)=List.lookup x r:=by rw[List.lookup_cons,h]
theorem cB0{scope:Scope}{env:Env}{x:Str}(h:(relabel scope env).names.lookup x=some .cell\/(relabel scope env).names.lookup x=some .free)(hc:∀ y∈scope.names,y.2≠.cell) :
  (x,NameKind.free)∈scope.names:=by
 unfold relabel at h
 dsimp only at h
 revert h hc
 generalize scope.names=l
 intro h hc
 induction l with
 | nil=>rcases h with h | h<;>cases h
 | cons y r ih=>
   obtain⟨n,k⟩:=y
   rw[List.map_cons]at h
   dsimp only at h
   have ih':=fun h=>ih h fun y hy=>hc y (List.mem_cons_of_mem _ hy)
   have hkc:k≠.cell:=hc (n,k) List.mem_cons_self
   by_cases hk:(k==NameKind.free&&env.scope.kind==.function&&env.kindOf n==some .cell)=true
   ·have hkf:k=.free:=by
     simp only[Bool.and_eq_true,beq_iff_eq]at hk
     exact hk.1.1
    rw[if_pos hk]at h
    cases hx:x==n with
    | true=>
      have hxn:x=n:=by simpa using hx
      subst hxn hkf
      exact List.mem_cons_self
    | false=>
      rw[eX hx]at h
      exact List.mem_cons_of_mem _ (ih' h)
   ·rw[if_neg hk]at h
    cases hx:x==n with
    | true=>
      have hxn:x=n:=by simpa using hx
      rw[jQ hx]at h
      subst hxn
      rcases h with h | h
      ·exact absurd (Option.some.inj h) hkc
      ·rw[Option.some.inj h];exact List.mem_cons_self
    | false=>
      rw[eX hx]at h
      exact List.mem_cons_of_mem _ (ih' h)
theorem mJ{scope:Scope}{env:Env}{x:Str}(h:(relabel scope env).names.lookup x=some .cell\/(relabel scope env).names.lookup x=some .free) :
  (x,NameKind.free)∈scope.names\/scope.names.lookup x=some .cell:=by
 unfold relabel at h
 dsimp only at h
 revert h
 generalize scope.names=l
 intro h
 induction l with
 | nil=>rcases h with h | h<;>cases h
 | cons y r ih=>
   obtain⟨n,k⟩:=y
   rw[List.map_cons]at h
   dsimp only at h
   by_cases hk:(k==NameKind.free&&env.scope.kind==.function&&env.kindOf n==some .cell)=true
   ·have hkf:k=.free:=by
     simp only[Bool.and_eq_true,beq_iff_eq]at hk
     exact hk.1.1
    rw[if_pos hk]at h
    cases hx:x==n with
    | true=>
      have hxn:x=n:=by simpa using hx
      subst hxn hkf
      exact .inl List.mem_cons_self
    | false=>
      rw[eX hx]at h
      rcases ih h with z | z
      ·exact .inl (List.mem_cons_of_mem _ z)
      ·exact .inr (by rw[eX hx];exact z)
   ·rw[if_neg hk]at h
    cases hx:x==n with
    | true=>
      have hxn:x=n:=by simpa using hx
      rw[jQ hx]at h
      subst hxn
      rcases h with h | h
      ·exact .inr (by rw[jQ hx];exact h)
      ·rw[Option.some.inj h];exact .inl List.mem_cons_self
    | false=>
      rw[eX hx]at h
      rcases ih h with z | z
      ·exact .inl (List.mem_cons_of_mem _ z)
      ·exact .inr (by rw[eX hx];exact z)
theorem dL:∀ (names:List (Str×NameKind)) (n:Nat) (acc:List (Str×Addr)),cellsFrom n names acc=cellsFrom n names []++acc
 | [],n,acc=>rfl
 | (x,k)::r,n,acc=>by
   unfold cellsFrom
   split
   ·rw[dL r (n+1) ((x,n)::acc),dL r (n+1) [(x,n)],List.append_assoc];rfl
   ·exact dL r n acc
theorem iP:∀ (names:List (Str×NameKind)) (n:Nat) (x:Str) (c:Addr),(x,c)∈cellsFrom n names []->(x,NameKind.cell)∈names
 | [],n,x,c,h=>nomatch h
 | (y,k)::r,n,x,c,h=>by
   unfold cellsFrom at h
   split at h
   ·rename_i hk
    have hk':k=.cell:=by simpa using hk
    rw[dL]at h
    rcases List.mem_append.mp h with z | z
    ·exact List.mem_cons_of_mem _ (iP r _ x c z)
    ·have e:=List.mem_singleton.mp z
     cases e;rw[hk'];exact List.mem_cons_self
   ·exact List.mem_cons_of_mem _ (iP r _ x c h)
theorem eI:∀ (names:List (Str×NameKind)) (n:Nat) (x:Str),(x,NameKind.cell)∈names->∃ c,(cellsFrom n names []).lookup x=some c
 | [],n,x,h=>nomatch h
 | (y,k)::r,n,x,h=>by
   have key:∀ m,(x,NameKind.cell)∈r->∃ c,(cellsFrom m r []).lookup x=some c:=fun m hm=>eI r m x hm
   unfold cellsFrom
   split
   ·rename_i hk
    rw[dL,List.lookup_append]
    rcases List.mem_cons.mp h with z | z
    ·cases z
     cases e:(cellsFrom (n+1) r []).lookup y with
     | some c=>exact⟨c,rfl⟩
     | none=>exact⟨n,by simp⟩
    ·obtain⟨c,hc⟩:=key (n+1) z
     exact⟨c,by rw[hc];rfl⟩
   ·rename_i hk
    rcases List.mem_cons.mp h with z | z
    ·cases z;exact absurd rfl hk
    ·exact key n z
theorem cG7{M:Model}{A:Around}{E:Value->Shared->Prop}{s:Shared}{scope:Scope}{globals:Addr}{cl:List (Str×Addr)}{qual:Str}{env:Env}{Q:Env->Shared->Prop}
  (hQ:Q (newEnv scope s.heap.objs.size globals (cellsFrom (s.heap.objs.size+1) scope.names cl) qual none .none (some env) builtinsNs) {s with heap:=pushCells (s.heap.push {cls:=.type "dict",data:=.dict #[]}) scope.names}) :
  wpAny M A (newFunctionEnv scope globals cl [] qual none .none (some env)) Q E s:=by
 simp only[newFunctionEnv,Option.isSome_some,if_true]
 refine wpAny_bind (wpAny_alloc ?_)
 refine wpAny_bind (wpAny_layCells _ (fun name kind cells=>by cases hkc:kind==NameKind.cell<;>simp[hkc]) _ _ _ _ ?_)
 rw[show({s with heap:=s.heap.push {cls:=.type "dict",data:=.dict #[]}}:Shared).heap.objs.size=s.heap.objs.size+1 from Heap.size_push ..]
 refine wpAny_bind ?_
 rw[List.forIn_nil]
 exact wpAny_pure (wpAny_pure hQ)
theorem uL{scope:Scope}{env:Env}{x:Str}(h:(relabel scope env).names.lookup x=some .local):scope.names.lookup x=some .local:=by
 unfold relabel at h
 dsimp only at h
 revert h
 generalize scope.names=l
 intro h
 induction l with
 | nil=>cases h
 | cons y r ih=>
   obtain⟨n,k⟩:=y
   rw[List.map_cons]at h
   dsimp only at h
   by_cases hk:(k==NameKind.free&&env.scope.kind==.function&&env.kindOf n==some .cell)=true
   ·rw[if_pos hk]at h
    cases hx:x==n with
    | true=>rw[jQ hx]at h;cases h
    | false=>rw[eX hx]at h ⊢;exact ih h
   ·rw[if_neg hk]at h
    cases hx:x==n with
    | true=>rw[jQ hx]at h ⊢;exact h
    | false=>rw[eX hx]at h ⊢;exact ih h
theorem Inv.adopt{X:Cx}{pins:List (Addr×Obj)}{σ:St}{H:Hp}{s:Shared}{a:Addr}{o:HO}(I:Inv X pins σ H s)(hn:H a=none)(h1:X.s₀.heap.objs.size<=a)(h2:a≠X.env.locals)
  (h3:∀ x c,X.env.cells.lookup x=some c->c≠a) (h4:∀ p∈X.pn++pins,p.1≠a) (new:dM X.prog X.w (upd H a o) s.heap a o):Inv X pins σ (upd H a o) s:=by
 have ne:∀ b u,H b=some u->b≠a:=fun b u e=>aE e hn
 refine⟨I.ok,I.os,I.bare,⟨I.base.keep,I.base.slot,fun b ob q n hx=>?_,I.base.there,fun b xs q=>?_,fun b ob u q=>?_,fun b ps q=>?_⟩,I.loc,I.cell,?_,fun x c e=>?_,fun p hp=>?_,fun b u e=>?_,I.len⟩
 ·rw[aF (Nat.ne_of_lt (Nat.lt_of_lt_of_le (Heap.lt_size q) h1))];exact I.base.free b ob q n hx
 ·have:=I.base.tups b xs q;rw[aF (ne b _ this)];exact this
 ·have:=I.base.frzs b ob u q;rw[aF (ne b _ this)];exact this
 ·obtain⟨m,this⟩:=I.base.tbls b ps q;exact⟨m,by rw[aF (ne b _ this)];exact this⟩
 ·rw[aF (Ne.symm h2)];exact I.free
 ·rw[aF (h3 x c e)];exact I.freeC x c e
 ·obtain⟨e,n,r⟩:=I.pin p hp
  exact⟨e,by rw[aF (h4 p hp)];exact n,r⟩
 ·by_cases hb:b=a
  ·subst hb;rw[aG]at e;cases e;exact new
  ·rw[aF hb]at e
   exact(I.hok b u e).stay (fun c v _ q=>q) (fun c q=>by rw[aF (ne c _ q)];exact q) fun c xs q=>by rw[aF (ne c _ q)];exact q
theorem zP{prog:Program}{w:World}{A:Around}{R:Result->Shared->Prop}{s:Shared}{elt target iter:Expr}{ifs:List Expr}{scope:Scope}{pos:Pos}{it acc:Value}{env:Env}(I:Nat->Shared->Prop)
  (turn:∀ n s,I n s->wpAny (model prog w) A (pyNext it) (fun r s₁=>match r with
   | none=>R (.ok .next) s₁
   | some v=>wpAny (model prog w) A (letOwnedTupleGo target it v) (fun _ s₁'=>wpAny (model prog w) A (assign target env v) (fun _ s₂=>
     wpAny (model prog w) A (forIn ifs true fun c r=>if r=true then do let ok ← isTrue c env (eval c env);pure (ForInStep.yield ok)else pure (ForInStep.yield r)) (fun ok s₃=>
      if ok=true then wpAny (model prog w) A (eval elt env) (fun x s₄=>
       wpAny (model prog w) A (call (.builtin "list.append") [acc,x]) (fun _ s₅=>∃ m,m < n/\I m s₅) (fun _ _=>False) s₄) (fun _ _=>False) s₃
      else ∃ m,m < n/\I m s₃) (fun _ _=>False) s₂) (fun _ _=>False) s₁') (fun _ _=>False) s₁) (fun _ _=>False) s)
  (n:Nat) (h:I n s) :
  codeAny (model prog w) A (.compLoop (.ListComp elt [⟨target,iter,ifs,0⟩] scope pos) 0 it acc env) R s:=by
 refine codeAny_loop rfl I (fun n s hI=>?_) n h
 show wpAny _ A ((compTurn (.ListComp elt [⟨target,iter,ifs,0⟩] scope pos) 0 it acc env).onRaise (fun x=>do noteFrame x env;theTreesLotGoes x)) _ _ s
 refine wpAny_noted ?_
 rw[compTurn_list]
 refine wpAny_bind (wpAny_standAt (wpAny_bind (wpAny_mono (turn n s hI) (fun r s₁ h₁=>?_) fun _ _ h'=>h'.elim)))
 cases r with
 | none=>exact wpAny_pure h₁
 | some v=>
   refine wpAny_bind (wpAny_mono h₁ (fun _ s₁' h₁=>?_) fun _ _ h'=>h'.elim)
   refine wpAny_bind (wpAny_mono h₁ (fun _ s₂ h₂=>wpAny_bind (wpAny_mono h₂ (fun ok s₃ h₃=>?_) fun _ _ h'=>h'.elim)) fun _ _ h'=>h'.elim)
   cases ok with
   | true=>
     simp only[if_true]at h₃ ⊢
     refine wpAny_bind (wpAny_bind (wpAny_mono h₃ (fun x s₄ h₄=>wpAny_bind (wpAny_mono h₄ (fun _ s₅ h₅=>wpAny_pure (wpAny_pure ⟨rfl,h₅⟩)) fun _ _ h'=>h'.elim)) fun _ _ h'=>h'.elim))
   | false=>
     simp only[Bool.false_eq_true,if_false]at h₃ ⊢
     first
      | exact wpAny_bind (wpAny_pure (wpAny_pure ⟨rfl,h₃⟩))
      | exact wpAny_pure ⟨rfl,h₃⟩
abbrev cxC(X:Cx)(scope:Scope)(cl:List (Str×Addr))(ex:List Addr)(s:Shared)(H:Hp):Cx:=
 {X with s₀:=s,H₀:=H,env:=compEnvC scope cl s.heap.objs.size X.env,outer:=X.stack,ex:=ex,fn:=fun x=>scope.names.lookup x==some .cell,xe:=fun _ _=>False}
def blank(own:List Nat)(σ:St):St:=own.foldl (fun σ i=>σ.set i none) σ
theorem oR:∀ (own:List Nat) (σ:St),(blank own σ).length=σ.length
 | [],_=>rfl
 | i::r,σ=>(oR r (σ.set i none)).trans (by simp)
theorem oA:∀ (own:List Nat) (σ:St) (i:Nat) (v:V),(blank own σ)[i]? = some (some v)->i∉own/\σ[i]? = some (some v)
 | [],_,_,_,h=>⟨by simp,h⟩
 | j::r,σ,i,v,h=>by
   obtain⟨h1,h2⟩:=oA r (σ.set j none) i v h
   by_cases e:i=j
   ·subst e
    rw[List.getElem?_set]at h2
    simp at h2
   ·rw[List.getElem?_set_ne (Ne.symm e)]at h2
    exact⟨by simp[e,h1],h2⟩
def cG8(own:List Nat)(g:TG):Prop:=∀ x σ H Q,g x σ H Q->g x σ H fun σ' H'=>Q σ' H'/\σ'.length=σ.length/\∀ i,i∉own->σ'[i]? = σ[i]?
def bP9(own:List Nat)(g:TGs):Prop:=∀ x σ H Q,g x σ H Q->g x σ H fun σ' H'=>Q σ' H'/\σ'.length=σ.length/\∀ i,i∉own->σ'[i]? = σ[i]?
theorem cI{own:List Nat}{i:Nat}(h:i∈own):cG8 own (pH i):=fun x σ H Q q=>
 ⟨q,by simp,fun j hj=>List.getElem?_set_ne (fun e:i=j=>hj (by rw[← e];exact h))⟩
theorem aT7{own:List Nat}:bP9 own dE4:=fun x σ H Q q=>⟨q.1,q.2,rfl,fun _ _=>rfl⟩
theorem tH{own:List Nat}{t:TG}{u:TGs}(ht:cG8 own t)(hu:bP9 own u)(mt:∀ x σ H Q Q',(∀ a b,Q a b->Q' a b)->t x σ H Q->t x σ H Q'):bP9 own (cF3 t u):=by
 intro x σ H Q q
 obtain⟨v,r,e,q⟩:=q
 refine⟨v,r,e,mt _ _ _ _ _ (fun σ1 H1 q1=>?_) (ht _ _ _ _ q)⟩
 obtain⟨q1,l1,p1⟩:=q1
 have:=hu _ _ _ _ q1
 revert this
 exact fun this=>by
  have hu2:u r σ1 H1 (fun σ' H'=>Q σ' H'/\σ'.length=σ1.length/\∀ i,i∉own->σ'[i]? = σ1[i]?):=this
  rw[l1]at hu2
  have e2:(fun(σ':St) H'=>Q σ' H'/\σ'.length=σ.length/\∀ i,i∉own->σ'[i]? = σ1[i]?)=(fun(σ':St) H'=>Q σ' H'/\σ'.length=σ.length/\∀ i,i∉own->σ'[i]? = σ[i]?):=by
   funext σ' H'
   apply propext
   constructor
   ·rintro⟨a,b,c⟩;exact⟨a,b,fun i hi=>(c i hi).trans (p1 i hi)⟩
   ·rintro⟨a,b,c⟩;exact⟨a,b,fun i hi=>(c i hi).trans (p1 i hi).symm⟩
  rw[← e2];exact hu2
theorem tI{i:Nat}:∀ x σ H (Q Q':St->Hp->Prop),(∀ a b,Q a b->Q' a b)->pH i x σ H Q->pH i x σ H Q':=fun _ _ _ _ _ f q=>f _ _ q
def cB1(X:Cx)(ifs:List Expr)(t:TT):Prop:=
 ∀ (pins:List (Addr×Obj)) (s:Shared) (σ:St) (H:Hp) (Q:Bool->Hp->Prop),Inv X pins σ H s->t σ H Q ->
   wpAny (model X.prog X.w) X.A (forIn ifs true fun c r=>if r=true then do let ok ← isTrue c X.env (eval c X.env);pure (ForInStep.yield ok)else pure (ForInStep.yield r)) (TP X pins σ Q) X.xe s
def cU5:TT:=fun _ H Q=>Q true H
theorem pV{X:Cx}:cB1 X [] cU5:=fun _ _ _ H _ I h=>wpAny_tests_nil ⟨H,I,h⟩
theorem aH0{X:Cx}{c:Expr}{t:TT}(h:PT X c t):cB1 X [c] t:=fun pins s σ H Q I q=>wpAny_tests_one (h pins s σ H Q I q)
structure CompScope(X:Cx)(scope:Scope)(own:List Nat):Prop where
 kind:scope.kind=.function
 cells:∀ y∈scope.names,y.2=.cell->scope.names.lookup y.1=some .cell
 names:∀ y∈scope.names,y.2=.local->scope.names.lookup y.1=some .local
 free:∀ y∈scope.names,y.2=.free->X.env.kindOf y.1=some .cell\/X.env.kindOf y.1=some .free
 own:∀ i x,X.N[i]? = some x->(scope.names.lookup x=some .local\/scope.names.lookup x=some .cell)->i∈own
 calm:X.calm=true
def cB2(own:List Nat)(wi:TI)(g:TG)(tt:TT)(te:TE)(σ:St)(H:Hp)(F:List V->Hp->Prop):Prop:=
 wi σ H fun J H1=>∃ W:Nat->Nat->List V->Hp->Prop,(∃ m,W 0 m [] H1)/\∀ i m ys H,W i m ys H->ys.length<=sizeLine /\
  ((J.stop i H/\F ys H)\/(J.go i H/\∀ x H',J.yld i H x H'->g x (blank own σ) H' fun σ2 H2=>tt σ2 H2 fun b H3=>
    if b=true then te σ2 H3 fun v H4=>∃ m',m' < m/\W (i+1) m' (ys++[v]) H4 else ∃ m',m' < m/\W (i+1) m' ys H3))
def aN2(own:List Nat)(wi:TI)(g:TG)(tt:TT)(te:TE):TE:=fun σ H Q=>cB2 own wi g tt te σ H fun ys H'=>∀ p,H' p=none->Q (.ref p) (upd H' p (.lst ys))
structure Stray(X:Cx)(pins:List (Addr×Obj))(H:Hp)(b:Addr):Prop where
 un:H b=none
 loc:b≠X.env.locals
 young:X.s₀.heap.objs.size<=b
 cell:∀ x c,X.env.cells.lookup x=some c->c≠b
 pin:∀ p∈X.pn++pins,p.1≠b
theorem Inv.stray{X:Cx}{pins:List (Addr×Obj)}{σ:St}{H H':Hp}{s:Shared}{b:Addr}(I:Inv X pins σ H s)(hb:s.heap.objs.size<=b)(hn:H' b=none):Stray X pins H' b:=by
 obtain⟨h1,h2,h3,h4,h5,h6⟩:=I.fpOk hb hn
 exact⟨h1,h2,Nat.le_trans I.sz hb,h5,h6⟩
set_option maxHeartbeats 8000000 in
theorem aN3{X:Cx}{tg iter elt:Expr}{ifs:List Expr}{scope:Scope}{pos:Pos}{own:List Nat}{g:TG}{tt:TT}{te:TE}{use:Option (Value->Sem Unit)}{Qf:Value->Shared->Prop}
  (S:CompScope X scope own) (hg:∀ cl ex s H,PG (cxC X scope cl ex s H) tg g) (hG:cG8 own g)
  (ht:∀ cl ex s H,cB1 (cxC X scope cl ex s H) ifs tt) (he:∀ cl ex s H,PE (cxC X scope cl ex s H) elt te)
  {pins:List (Addr×Obj)} {s₃:Shared} {σ:St} {H2:Hp} {F:List V->Hp->Prop} {cl:List (Str×Addr)} {J:It} {fp:List Addr} {it D:Addr} {tn:Nat->Heap->Prop} {h₁:Heap} {mC:Str->Option Value} {tk m0:Nat} {W:Nat->Nat->List V->Hp->Prop}
  (I3:Inv X pins σ H2 s₃) (T:Turn X.prog X.w X.K tg J fp it tn) (cl1:∀ x c,cl.lookup x=some c->(X.env.cells.lookup x=some c/\scope.names.lookup x≠some .cell)\/(s₃.heap.objs.size < c/\scope.names.lookup x=some .cell/\h₁.IsCell c none)) (cl2:∀ y∈scope.names,y.2=.free\/y.2=.cell->∃ c,cl.lookup y.1=some c)
  (cl3:∀ x y c,cl.lookup x=some c->cl.lookup y=some c->x=y)
  (f2:∀ b∈fp,aR5 X pins H2 b) (hfpD:∀ b∈fp,b < D) (hDlt:D < s₃.heap.objs.size) (stack_ne:∀ b,b∈frs X.stack->b < D) (hbase:∀ b o,X.base.get? b=some o->b < D) (strD:Stray X pins H2 D)
  (hD3:s₃.heap.get? D=some {cls:=.type "list",data:=.seq ([]:List Value).toArray}) (st3:tn 0 s₃.heap) (hns₁:h₁.Ns s₃.heap.objs.size mC) (old4:∀ b o,s₃.heap.get? b=some o->h₁.get? b=some o)
  (w0:W 0 m0 [] H2) (turn:∀ i m ys H,W i m ys H->ys.length<=sizeLine /\
  ((J.stop i H/\F ys H)\/(J.go i H/\∀ x H',J.yld i H x H'->g x (blank own σ) H' fun σ2 H2=>tt σ2 H2 fun b H3=>
    if b=true then te σ2 H3 fun v H4=>∃ m',m' < m/\W (i+1) m' (ys++[v]) H4 else ∃ m',m' < m/\W (i+1) m' ys H3)))
  (fin:∀ D C ys H' s' m,Inv X pins σ (upd H' D (.lst ys)) s'->H' D=none->s'.heap.Ns C m->Stray X pins (upd H' D (.lst ys)) C->F ys H' ->
   compPost (model X.prog X.w) X.A X.xe use Qf (.ref D) C (.ok .next) s') :
  codeAny (model X.prog X.w) X.A (.compLoop (.ListComp elt [⟨tg,iter,ifs,0⟩] scope pos) 0 (.ref it) (.ref D) (compEnvC scope cl s₃.heap.objs.size X.env))
   (compPost (model X.prog X.w) X.A X.xe use Qf (.ref D) s₃.heap.objs.size) {s₃ with heap:=h₁,toks:=tk}:=by
 have cneD:∀ x c,cl.lookup x=some c->c≠D:=fun x c q=>by
  rcases cl1 x c q with z | z
  ·exact strD.cell x c z.1
  ·exact(Nat.ne_of_lt (Nat.lt_trans hDlt z.1)).symm
 have cneF:∀ b∈fp,∀ x c,cl.lookup x=some c->c≠b:=fun b hb x c q=>by
  rcases cl1 x c q with z | z
  ·exact(f2 b hb).2.2.2.2.1 x c z.1
  ·exact(Nat.ne_of_lt (Nat.lt_trans (Nat.lt_trans (hfpD b hb) hDlt) z.1)).symm
 have okY:(cxC X scope cl (D::fp) s₃ H2).Ok:=by
  refine⟨I3.ok.mod,S.kind,I3.ok.glob,I3.ok.blt,Nat.le_refl _,cl3,fun x hk=>?_,fun x c hf q=>?_,I3.ok.hd,I3.ok.frames,.inl rfl,fun b hb=>?_,fun b o q=>?_,?_,fun b o q hb=>?_,fun b hb hfs=>?_,I3.stack,I3.stkFree⟩
  ·rcases mJ hk with z | z
   ·exact cl2 _ z (.inl rfl)
   ·exact cl2 _ (mem_of_lookup z) (.inr rfl)
  ·rcases cl1 x c q with z | z
   ·have hf':scope.names.lookup x=some .cell:=by simpa using hf
    exact absurd hf' z.2
   ·exact Nat.le_of_lt z.1
  ·constructor
   ·show b≠s₃.heap.objs.size
    rcases List.mem_cons.mp hb with z | z
    ·rw[z];exact Nat.ne_of_lt hDlt
    ·exact Nat.ne_of_lt (Nat.lt_trans (hfpD b z) hDlt)
   ·intro x c q
    rcases List.mem_cons.mp hb with z | z
    ·rw[z];exact cneD x c q
    ·exact cneF b z x c q
  ·exact I3.bs b o q
  ·exact Nat.le_trans I3.ok.bsz I3.sz
  ·rcases List.mem_cons.mp hb with z | z
   ·have:=hbase b o q
    rw[z]at this
    exact Nat.lt_irrefl _ this
   ·rcases(f2 b z).2.2.2.1 with y | y
    ·exact I3.ok.noex b o q y
    ·exact Nat.lt_irrefl _ (Nat.lt_of_lt_of_le (Heap.lt_size q) (Nat.le_trans I3.ok.bsz y))
  ·rcases List.mem_cons.mp hb with z | z
   ·have:=stack_ne b hfs
    rw[z]at this
    exact Nat.lt_irrefl _ this
   ·rcases List.mem_cons.mp (I3.stkSub b hfs)with y | y
    ·exact(f2 b z).2.1 y
    ·exact(f2 b z).2.2.1 y
 have IY:Inv (cxC X scope cl (D::fp) s₃ H2) pins (blank own σ) H2 {s₃ with heap:=h₁,toks:=tk}:=by
  refine⟨okY,rfl,I3.bare,Un.kept old4,⟨_,hns₁,fun i x v e1 e2 e3=>?_⟩,fun x c q=>?_,I3.hok.fresh (Nat.le_refl _),fun x c q=>by
   rcases cl1 x c q with z | z
   ·exact I3.freeC x c z.1
   ·exact I3.hok.fresh (Nat.le_of_lt z.1),fun p hp=>?_,I3.hok.kept old4,(oR own σ).trans I3.len⟩
  ·obtain⟨hno,e2'⟩:=oA own σ i v e2
   have hnl:¬ (relabel scope X.env).names.lookup x=some .local:=fun z=>hno (S.own i x e1 (.inl (uL z)))
   have hnc:¬ scope.names.lookup x=some .cell:=fun z=>hno (S.own i x e1 (.inr z))
   have hcf:(relabel scope X.env).names.lookup x=some .cell\/(relabel scope X.env).names.lookup x=some .free:=by
    rcases e3 with z | z | z
    ·exact absurd z hnl
    ·exact .inl z
    ·exact .inr z
   have hmem:=(mJ hcf).resolve_right hnc
   have hkX:=S.free _ hmem rfl
   obtain⟨m,hm,hl⟩:=I3.loc
   obtain⟨u,r,lk⟩:=hl i x v e1 e2' (by rcases hkX with z | z;exact .inr (.inl z);exact .inr (.inr z))
   obtain⟨c,hc⟩:=cl2 _ hmem (.inl rfl)
   refine⟨u,r,.inr ⟨hcf,c,hc,?_⟩⟩
   rcases lk with⟨z,_⟩ | ⟨_,c',hc',ic⟩
   ·dsimp only at hkX
    rw[z]at hkX
    rcases hkX with y | y<;>cases y
   ·have:=((cl1 _ c hc).resolve_right fun z=>hnc z.2.1).1
    dsimp only at this
    rw[hc']at this
    cases this
    obtain⟨o,ho,hd⟩:=ic
    exact⟨o,old4 _ _ ho,hd⟩
  ·rcases cl1 x c q with z | z
   ·obtain⟨v,o,ho,hd⟩:=I3.cell x c z.1
    exact⟨v,o,old4 _ _ ho,hd⟩
   ·exact⟨_,z.2.2⟩
  ·obtain⟨q,n,ne,nf,d⟩:=I3.pin p hp
   refine⟨old4 _ _ q,n,Nat.ne_of_lt (Heap.lt_size q),fun hb=>?_,d⟩
   rcases List.mem_cons.mp (I3.stkSub _ hb)with y | y
   ·exact ne y
   ·exact nf y
 have DY:D≠s₃.heap.objs.size:=Nat.ne_of_lt hDlt
 have statY:∀ {H':Hp},(∀ b∈fp,H' b=none)->∀ b∈fp,aR5 (cxC X scope cl (D::fp) s₃ H2) pins H' b:=fun hn b hb=>by
  refine⟨hn b hb,?_,?_,.inl (List.mem_cons_of_mem _ hb),cneF b hb,(f2 b hb).2.2.2.2.2⟩
  ·show b≠s₃.heap.objs.size
   exact Nat.ne_of_lt (Nat.lt_trans (hfpD b hb) hDlt)
  ·intro hfs
   rcases List.mem_cons.mp (I3.stkSub b hfs)with y | y
   ·exact(f2 b hb).2.1 y
   ·exact(f2 b hb).2.2.1 y
 have hDfp:D∉fp:=fun z=>Nat.lt_irrefl _ (hfpD D z)
 have hDstk:D∉frs X.stack:=fun z=>Nat.lt_irrefl _ (stack_ne D z)
 have stat2:∀ {H':Hp} {o:Obj},(∀ b∈fp,H' b=none)->∀ b∈fp,aR5 (cxC X scope cl (D::fp) s₃ H2) (pins++[(D,o)]) H' b:=fun{H' o} fr b hb=>by
  obtain⟨a1,a2,a3,a4,a5,a6⟩:=statY fr b hb
  refine⟨a1,a2,a3,a4,a5,fun p hp z=>?_⟩
  rcases List.mem_append.mp hp with y | y
  ·exact a6 p (List.mem_append_left _ y) z
  ·rcases List.mem_append.mp y with y | y
   ·exact a6 p (List.mem_append_right _ y) z
   ·have e:p=(D,o):=List.mem_singleton.mp y
    rw[e]at z
    have z':D=b:=z
    exact hDfp (by rw[z'];exact hb)
 have pin2:∀ {H':Hp} {s':Shared} {its:Array Value} {k:Nat},Inv (cxC X scope cl (D::fp) s₃ H2) pins (blank own σ) H' s'->H' D=none->s'.heap.get? D=some {cls:=.type "list",data:=.seq its k} ->
   Inv (cxC X scope cl (D::fp) s₃ H2) (pins++[(D,{cls:=.type "list",data:=.seq its k})]) (blank own σ) H' s':=fun{H' s' its k} I4 D4 o4=>I4.pins_of fun p hp=>by
  rcases List.mem_append.mp hp with z | z
  ·exact I4.pin p (List.mem_append_right _ z)
  ·have e:p=(D,{cls:=.type "list",data:=.seq its k}):=List.mem_singleton.mp z
   subst e
   exact⟨o4,D4,DY,hDstk,fun v z=>by cases z⟩
 refine zP (fun n s'=>∃ i ys H' its k,Inv (cxC X scope cl (D::fp) s₃ H2) pins (blank own σ) H' s'/\tn i s'.heap/\(∀ b∈fp,H' b=none)/\H' D=none /\
  s'.heap.get? D=some {cls:=.type "list",data:=.seq its k}/\cF ys its.toList/\W i n ys H') ?_ m0
  ⟨0,[],H2,#[],_,IY,T.keep _ _ _ st3 fun b hb o q=>old4 b o q,fun b hb=>(f2 b hb).1,strD.un,old4 _ _ hD3,.nil,w0⟩
 rintro n s4 ⟨i,ys,H4,its,k,I4,st4,fr4,D4,o4,v4,w4⟩
 obtain⟨hz,step⟩:=turn i n ys H4 w4
 rcases step with⟨stop,qn⟩ | ⟨go,step⟩
 ·refine thn (T.done (cxC X scope cl (D::fp) s₃ H2) rfl rfl rfl S.calm i _ s4 (blank own σ) H4 (fun _ _=>False) (pin2 I4 D4 o4) (stat2 fr4) st4 stop) fun r s5 ⟨hr,I5⟩=>?_
  subst hr
  have oD:s5.heap.get? D=some {cls:=.type "list",data:=.seq its k}:=(I5.pin (D,_) (List.mem_append_right _ (List.mem_append_right _ List.mem_cons_self))).1
  have I5':Inv (cxC X scope cl (D::fp) s₃ H2) pins (blank own σ) H4 s5:=I5.unpinned
  have IX:Inv X pins σ H4 s5:=by
   refine I3.call' (ch:=D::fp) I5'.os I5'.base I5'.hok I5'.bare fun b hb=>?_
   rcases List.mem_cons.mp hb with z | z
   ·rw[z];exact⟨.inr strD.young,strD.loc,strD.cell,strD.pin⟩
   ·obtain⟨a1,a2,a3,a4,a5,a6⟩:=f2 b z
    exact⟨a4,a2,a5,a6⟩
  obtain⟨m5,hm5,_⟩:=I5'.loc
  have nC:H4 s₃.heap.objs.size=none:=I5'.free
  have IX':Inv X pins σ (upd H4 D (.lst ys)) s5:=by
   refine IX.adopt D4 strD.young strD.loc strD.cell strD.pin ⟨hz,its.toList,k,v4,?_⟩
   rw[oD]
  have strC:Stray X pins (upd H4 D (.lst ys)) s₃.heap.objs.size:=I3.stray (Nat.le_refl _) (by rw[aF (Ne.symm DY)];exact nC)
  exact fin D _ ys H4 s5 m5 IX' D4 hm5 strC qn
 ·refine thn (T.item (cxC X scope cl (D::fp) s₃ H2) rfl rfl rfl S.calm i _ s4 (blank own σ) H4 (fun _ _=>False) (pin2 I4 D4 o4) (stat2 fr4) st4 go) fun r s5 ⟨u,hr,h5⟩=>?_
  subst hr
  refine thn h5 fun _ s6 ⟨x,H6,I6,r6,y6,st6,fr6⟩=>?_
  have I6':=I6.pinned (stat2 fr6) (T.obj _ _ st6)
  refine thn (hg cl (D::fp) s₃ H2 _ s6 (blank own σ) H6 x u _ I6' r6 (hG _ _ _ _ (step x H6 y6))) fun _ s7 ⟨σ7,H7,I7,⟨q7,l7,p7⟩⟩=>?_
  refine thn (ht cl (D::fp) s₃ H2 _ s7 σ7 H7 _ I7 q7) fun b s8 ⟨H8,I8,q8⟩=>?_
  have weak:∀ {H9:Hp} {s9:Shared},Inv (cxC X scope cl (D::fp) s₃ H2) ((pins++[(D,{cls:=.type "list",data:=.seq its k})])++qS fp s6.heap) σ7 H9 s9 ->
    Inv (cxC X scope cl (D::fp) s₃ H2) ((pins++[(D,{cls:=.type "list",data:=.seq its k})])++qS fp s6.heap) (blank own σ) H9 s9:=fun I9=>
   I9.weak l7.symm fun j v e=>by rw[p7 j (oA own σ j v e).1];exact e
  have tn9:∀ {H9:Hp} {s9:Shared},Inv (cxC X scope cl (D::fp) s₃ H2) ((pins++[(D,{cls:=.type "list",data:=.seq its k})])++qS fp s6.heap) (blank own σ) H9 s9->tn (i+1) s9.heap/\∀ b∈fp,H9 b=none:=fun I9=>
   ⟨T.keep _ _ _ st6 fun b hb o q=>(I9.pin (b,o) (List.mem_append_right _ (List.mem_append_right _ (kK hb q)))).1,fun b hb=>by
    obtain⟨o,q,d⟩:=T.obj _ _ st6 b hb
    exact(I9.pin (b,o) (List.mem_append_right _ (List.mem_append_right _ (kK hb q)))).2.1⟩
  cases b with
  | true=>
    rw[if_pos rfl]at q8 ⊢
    refine thn (he cl (D::fp) s₃ H2 _ s8 σ7 H8 _ I8 q8) fun y s9 ⟨v9,H9,I9,r9,m',hm',w9⟩=>?_
    have I9':=weak I9
    obtain⟨t9,f9⟩:=tn9 I9'
    have p9:=I9'.pin (D,_) (List.mem_append_right _ (List.mem_append_left _ (List.mem_append_right _ List.mem_cons_self)))
    have hlen:=v4.length
    have hz':its.size<=sizeLine:=by rw[← Array.length_toList];omega
    refine append_at (hsz:=hz') p9.1 fun h' hs' hD'=>?_
    have I9u:Inv (cxC X scope cl (D::fp) s₃ H2) pins (blank own σ) H9 s9:=I9'.unpinned.unpinned
    have I10:Inv (cxC X scope cl (D::fp) s₃ H2) pins (blank own σ) H9 {s9 with heap:=h'}:=
     I9u.turned (it:=D) (t':=s9.toks) (fun b o hb q=>(hs'.2 b hb).trans q) p9.2.1 DY (.inl List.mem_cons_self) cneD strD.pin
    refine⟨m',hm',i+1,ys++[v9],H9,its.push y,k+1,I10,T.keep _ _ _ t9 fun b hb o q=>(hs'.2 b fun z=>hDfp (by rw[← z];exact hb)).trans q,f9,p9.2.1,hD',?_,w9⟩
    rw[Array.toList_push]
    exact v4.append (.cons r9 .nil)
  | false=>
    rw[if_neg Bool.false_ne_true]at q8 ⊢
    obtain⟨m',hm',w9⟩:=q8
    have I9':=weak I8
    obtain⟨t9,f9⟩:=tn9 I9'
    have p9:=I9'.pin (D,_) (List.mem_append_right _ (List.mem_append_left _ (List.mem_append_right _ List.mem_cons_self)))
    exact⟨m',hm',i+1,ys,H8,its,k,I9'.unpinned.unpinned,t9,f9,p9.2.1,p9.1,v4,w9⟩
set_option maxHeartbeats 8000000 in
theorem xR{X:Cx}{tg iter elt:Expr}{ifs:List Expr}{scope:Scope}{pos pos':Pos}{own:List Nat}{wi:TI}{g:TG}{tt:TT}{te:TE}{use:Option (Value->Sem Unit)}{Qf:Value->Shared->Prop}
  (S:CompScope X scope own) (hi:PI X tg iter wi) (hg:∀ cl ex s H,PG (cxC X scope cl ex s H) tg g) (hG:cG8 own g)
  (ht:∀ cl ex s H,cB1 (cxC X scope cl ex s H) ifs tt) (he:∀ cl ex s H,PE (cxC X scope cl ex s H) elt te)
  {pins:List (Addr×Obj)} {s:Shared} {σ:St} {H:Hp} {F:List V->Hp->Prop} (I:Inv X pins σ H s) (hw:cB2 own wi g tt te σ H F)
  (hs:∀ x,foldedSetIterable iter X.env x=pure x)
  (fin:∀ D C ys H' s' m,Inv X pins σ (upd H' D (.lst ys)) s'->H' D=none->s'.heap.Ns C m->Stray X pins (upd H' D (.lst ys)) C->F ys H' ->
   compPost (model X.prog X.w) X.A X.xe use Qf (.ref D) C (.ok .next) s') :
  wpAny (model X.prog X.w) X.A (comprehension (.ListComp elt [⟨tg,iter,ifs,0⟩] scope pos) scope X.env pos' (newList []) false (eval iter X.env) use) Qf X.xe s:=by
 obtain⟨cl,hcl,cl1,cl2⟩:=aN1 (scope:=scope) (env:=X.env) fun y hy hf=>I.ok.has y.1 (S.free y hy hf)
 refine wpAny_comprehension_free (use:=use) rfl hs hcl S.kind S.names (thn (hi pins s σ H _ I hw) fun v s₁ h₁=>thn h₁ fun itv s₂ h₂=>?_)
 obtain⟨it,fp,tn,J,H2,e,I2,T,st2,f2,W,⟨m0,w0⟩,turn⟩:=h₂
 subst e
 refine wpAny_newObj_type (cG7 ?_)
 dsimp only
 have hsz:(s₂.heap.push {cls:=.type "list",dict:=none,data:=.seq ([]:List Value).toArray}).objs.size=s₂.heap.objs.size+1:=Heap.size_push ..
 have old3:∀ b o,s₂.heap.get? b=some o->(s₂.heap.push {cls:=.type "list",dict:=none,data:=.seq ([]:List Value).toArray}).get? b=some o:=fun b o q=>Heap.get?_push_of_some _ q
 have hD3:(s₂.heap.push {cls:=.type "list",dict:=none,data:=.seq ([]:List Value).toArray}).get? s₂.heap.objs.size=some {cls:=.type "list",dict:=none,data:=.seq ([]:List Value).toArray}:=Heap.get?_push_size _ rfl
 generalize hG3:s₂.heap.push {cls:=.type "list",dict:=none,data:=.seq ([]:List Value).toArray}=G3 at hsz old3 hD3 ⊢
 have hsz4:(G3.push {cls:=.type "dict",data:=.dict #[]}).objs.size=G3.objs.size+1:=Heap.size_push ..
 have hns₁:(pushCells (G3.push {cls:=.type "dict",data:=.dict #[]}) scope.names).Ns G3.objs.size (fun _=>none):=(Heap.Ns.new G3 (.type "dict")).keeps (pushCells_keeps _ _)
 have old4:∀ b o,G3.get? b=some o->(pushCells (G3.push {cls:=.type "dict",data:=.dict #[]}) scope.names).get? b=some o:=fun b o q=>pushCells_keeps _ _ b o (Heap.get?_push_of_some _ q)
 have ok:=cellsFrom_ok scope.names (G3.push {cls:=.type "dict",data:=.dict #[]}) (G3.objs.size+1) [] ⟨fun _ _ hm=>(nomatch hm),List.Pairwise.nil⟩ (by rw[hsz4];exact Nat.le_refl _)
 rw[hsz4]at ok
 generalize pushCells (G3.push {cls:=.type "dict",data:=.dict #[]}) scope.names=h₁ at hns₁ old4 ok ⊢
 have I3:Inv X pins σ H2 {s₂ with heap:=G3}:=I2.kept (t':=s₂.toks) old3
 have look:∀ x,(cellsFrom (G3.objs.size+1) scope.names cl).lookup x=((cellsFrom (G3.objs.size+1) scope.names []).lookup x).or (cl.lookup x):=fun x=>by rw[dL,List.lookup_append]
 have newc:∀ x c,(cellsFrom (G3.objs.size+1) scope.names []).lookup x=some c->G3.objs.size < c/\scope.names.lookup x=some .cell/\h₁.IsCell c none:=fun x c q=>
  ⟨(ok.empty x c (mem_of_lookup q)).2,S.cells _ (iP _ _ x c (mem_of_lookup q)) rfl,(ok.empty x c (mem_of_lookup q)).1⟩
 have cl1':∀ x c,(cellsFrom (G3.objs.size+1) scope.names cl).lookup x=some c->(X.env.cells.lookup x=some c/\scope.names.lookup x≠some .cell)\/(G3.objs.size < c/\scope.names.lookup x=some .cell/\h₁.IsCell c none):=fun x c q=>by
  rw[look]at q
  cases e:(cellsFrom (G3.objs.size+1) scope.names []).lookup x with
  | some c'=>rw[e]at q;cases q;exact .inr (newc x _ e)
  | none=>
    rw[e]at q
    refine .inl ⟨cl1 x c q,fun z=>?_⟩
    obtain⟨c',hc'⟩:=eI scope.names (G3.objs.size+1) x (mem_of_lookup z)
    rw[e]at hc';cases hc'
 have oldlt:∀ x c,X.env.cells.lookup x=some c->c < G3.objs.size:=fun x c q=>by
  obtain⟨v,o,ho,hd⟩:=I3.cell x c q
  exact Heap.lt_size ho
 have loop:=aN3 (iter:=iter) (elt:=elt) (pos:=pos) (use:=use) (Qf:=Qf) (tk:=s₂.toks) (h₁:=h₁) S hg hG ht he I3 T cl1' (fun y hy hk=>by
   rw[look]
   rcases hk with z | z
   ·obtain⟨c,hc⟩:=cl2 y hy z
    cases e:(cellsFrom (G3.objs.size+1) scope.names []).lookup y.1 with
    | some c'=>exact⟨c',rfl⟩
    | none=>exact⟨c,hc⟩
   ·obtain⟨c,hc⟩:=eI scope.names (G3.objs.size+1) y.1 (by rw[← z];exact hy)
    exact⟨c,by rw[hc];rfl⟩) (fun x y c q1 q2=>by
   rcases cl1' x c q1 with z1 | z1
   ·rcases cl1' y c q2 with z2 | z2
    ·exact I3.ok.inj x y c z1.1 z2.1
    ·exact absurd z2.1 (Nat.not_lt.mpr (Nat.le_of_lt (oldlt x c z1.1)))
   ·rcases cl1' y c q2 with z2 | z2
    ·exact absurd z1.1 (Nat.not_lt.mpr (Nat.le_of_lt (oldlt y c z2.1)))
    ·have m1:(cellsFrom (G3.objs.size+1) scope.names []).lookup x=some c:=by
      obtain⟨c',hc'⟩:=eI scope.names (G3.objs.size+1) x (mem_of_lookup z1.2.1)
      rw[look,hc']at q1;cases q1;exact hc'
     have m2:(cellsFrom (G3.objs.size+1) scope.names []).lookup y=some c:=by
      obtain⟨c',hc'⟩:=eI scope.names (G3.objs.size+1) y (mem_of_lookup z2.2.1)
      rw[look,hc']at q2;cases q2;exact hc'
     exact name_of_addr ok.apart (mem_of_lookup m1) (mem_of_lookup m2)) f2 (fun b hb=>by obtain⟨o,q,_⟩:=T.obj _ _ st2 b hb;exact Heap.lt_size q)
  (by show s₂.heap.objs.size < G3.objs.size;omega) (fun b hb=>by
   rcases List.mem_cons.mp (I2.stkSub b hb)with z | z
   ·rw[z];exact I2.lt
   ·exact Nat.lt_of_not_le fun hle=>I2.nofs hle z)
  (fun b o q=>Heap.lt_size (I2.bs b o q).1) (I2.stray (Nat.le_refl _) (I2.hok.fresh (Nat.le_refl _))) hD3 (T.keep _ _ _ st2 fun b hb o q=>old3 b o q) hns₁ old4 w0 turn fin
 exact codeAny_compStart_list loop (T.self _ 0 _ _ _ (T.keep _ _ _ st2 fun b hb o q=>old4 b o (old3 b o q)) loop)
theorem iQ{X:Cx}{tg iter elt:Expr}{ifs:List Expr}{scope:Scope}{pos:Pos}{own:List Nat}{wi:TI}{g:TG}{tt:TT}{te:TE}
  (S:CompScope X scope own) (hi:PI X tg iter wi) (hg:∀ cl ex s H,PG (cxC X scope cl ex s H) tg g) (hG:cG8 own g)
  (ht:∀ cl ex s H,cB1 (cxC X scope cl ex s H) ifs tt) (he:∀ cl ex s H,PE (cxC X scope cl ex s H) elt te)
  (hs:∀ x,foldedSetIterable iter X.env x=pure x:=by intro _;rfl):PE X (.ListComp elt [⟨tg,iter,ifs,0⟩] scope pos) (aN2 own wi g tt te):=by
 intro pins s σ H Q I hw
 rw[eval_ListComp]
 refine xR (use:=none) S hi hg hG ht he I hw hs fun D C ys H' s' m IX hD hm str q=>?_
 refine⟨m,hm,fun h' hs'=>⟨.ref D,upd H' D (.lst ys),?_,rfl,q D hD⟩⟩
 exact IX.turned (it:=C) (t':=s'.toks) (fun b o hb e=>(hs'.2 b hb).trans e) str.un str.loc (.inr str.young) str.cell str.pin
theorem kM{X:Cx}{i:Nat}{x:Str}{tg iter elt:Expr}{ifs:List Expr}{scope:Scope}{pos pos' spos:Pos}{own:List Nat}{wi:TI}{g:TG}{tt:TT}{te:TE}
  (hN:X.N.Nodup) (hin:X.N[i]? = some x) (hx:X.env.scope.names.lookup x=some .local)
  (S:CompScope X scope own) (hi:PI X tg iter wi) (hg:∀ cl ex s H,PG (cxC X scope cl ex s H) tg g) (hG:cG8 own g)
  (ht:∀ cl ex s H,cB1 (cxC X scope cl ex s H) ifs tt) (he:∀ cl ex s H,PE (cxC X scope cl ex s H) elt te)
  (hsw:swapsWith (.ListComp elt [⟨tg,iter,ifs,0⟩] scope pos) (some (.Name x pos')) spos.line X.env=pure true)
  (hs:∀ x,foldedSetIterable iter X.env x=pure x:=by intro _;rfl) :
  PS X (.Assign [.Name x pos'] (.ListComp elt [⟨tg,iter,ifs,0⟩] scope pos) spos) (fun D σ H=>aN2 own wi g tt te σ H fun v H1=>D.nx (σ.set i (some v)) H1):=by
 intro pins s σ H D0 I hw
 rw[exec_Assign_Name_used _ _ _ _ hsw]
 refine wpAny_bind (wpAny_standAt (wpAny_bind ?_))
 show wpAny _ _ (do let _ ← comprehension (.ListComp elt [⟨tg,iter,ifs,0⟩] scope pos) scope X.env _ (newList []) false (eval iter X.env) (some (assign (.Name x pos') X.env))) _ _ s
 refine wpAny_bind (thn (xR (use:=some (assign (.Name x pos') X.env)) (Qf:=fun _ s'=>SP X pins D0 .next s') S hi hg hG ht he I hw hs fun D C ys H' s' m IX hD hm str q=>?_) fun _ s' hq=>wpAny_pure (wpAny_pure hq))
 show wpAny _ _ (assign (.Name x pos') X.env (.ref D)) _ _ s'
 refine wpAny_assign_Name (xF (v:=.ref D) IX hN hin (.inl hx) (show eG (.ref D) (Value.ref D)from rfl) (fun s'' I'' hch=>?_) (.inr hx))
 obtain⟨a,hsame,ha⟩:=hch
 have hCa:C≠a:=by
  rcases ha with z | z
  ·rw[z];exact str.loc
  ·exact Ne.symm (str.cell x a z)
 refine⟨m,hm.sameBut hsame hCa,fun h' hs'=>⟨_,_,?_,q D hD⟩⟩
 exact I''.turned (it:=C) (t':=s''.toks) (fun b o hb e=>(hs'.2 b hb).trans e) str.un str.loc (.inr str.young) str.cell str.pin
end L2
namespace L2
open PySem PySem.Spec PyProof.Rows
section
variable{X:Cx}
theorem bQ0(hc:X.calm=true):kW X (.builtin "all") (fun xs H Q=>∃ (a:Addr) (bs:List Bool),xs=[.ref a]/\SqL X.K H a (bs.map V.bl)/\Q (.bl (bs.all id)) H):=by
 intro pins s σ H xs us Q I r h
 obtain⟨a,bs,rfl,ha,q⟩:=h
 obtain⟨u,rfl,ru⟩:=zL r
 cases ru
 obtain⟨its,rv,p,hz⟩:=I.list ha
 have hlt:a < s.heap.objs.size:=by obtain⟨_,e,_⟩:=p.isList;exact Heap.lt_size e
 have hh:X.A.in1.handled=none:=I.ok.hd hc
 refine call_all_walk (wpAny_pyIter_list p.isList ?_)
 refine⟨s.heap.objs.size,[s.heap.objs.size,a],[s.heap.objs.size],its.toArray.size,_,_,fun i=>(bs[i]?).getD true,rfl,Walks.list (A:=X.A.in1) hh _ a (Nat.ne_of_lt hlt) its.toArray,
  ⟨⟨_,Heap.get?_push_size _ rfl,rfl,rfl⟩,p.isList.push _⟩,fun i v s' Q' E' hP hQ=>?_,fun h' tk hk=>?_⟩
 ·have hi:its[i]? = some v:=by simpa using hP
  have hlen:=rv.length
  have hilt:i < its.length:=(List.getElem?_eq_some_iff.mp hi).1
  have hb:i < bs.length:=by rw[List.length_map]at hlen;omega
  obtain⟨u,hu,r2⟩:=rv.get (i:=i) (x:=V.bl bs[i]) (by rw[List.getElem?_map,List.getElem?_eq_getElem hb];rfl)
  rw[hi]at hu;cases hu
  have e:v=Value.bool bs[i]:=r2
  subst e
  simp only[List.getElem?_eq_getElem hb,Option.getD_some]at hQ
  exact wpAny_truthy_bool hQ
 ·have e:((List.range its.toArray.size).all fun i=>(bs[i]?).getD true)=bs.all id:=by
   have hlen:=rv.length
   rw[List.length_map]at hlen
   rw[List.size_toArray,← hlen]
   rw[Bool.eq_iff_iff,List.all_eq_true,List.all_eq_true]
   constructor
   ·intro h1 b hb
    obtain⟨i,hi,rfl⟩:=List.getElem_of_mem hb
    have:=h1 i (List.mem_range.mpr hi)
    simp only[List.getElem?_eq_getElem hi,Option.getD_some]at this
    exact this
   ·intro h1 i hi
    have hi':=List.mem_range.mp hi
    simp only[List.getElem?_eq_getElem hi',Option.getD_some]
    exact h1 _ (List.getElem_mem hi')
  rw[e]
  exact⟨.bl _,H,I.kept (t':=tk) fun b o q=>hk b o (fun hm=>by
   have z:b=s.heap.objs.size:=by simpa using hm
   rw[z]at q;exact Nat.lt_irrefl _ (Heap.lt_size q)) (Heap.get?_push_of_some _ q),rfl,q⟩
def Its(x:Str):It:=⟨fun i _=>∃ c,x.cps[i]? = some c,fun i H v H'=>H'=H/\∃ c,x.cps[i]? = some c/\v=.str ⟨#[c]⟩,fun i _=>x.cps[i]? = none⟩
theorem aH1{P:Program}{w:World}{K:PySem.W.Frag}{tg:Expr}(x:Str)(t:Tok)(it:Addr)(ty:String)(hty:ty="str_ascii_iterator"\/ty="str_iterator"):Turn P w K tg (Its x) [it] it (fun i h=>h.IsStrIter it ty x t i) where
 mem:=by simp
 obj:=fun i h st b hb=>by
  have e:b=it:=by simpa using hb
  subst e
  obtain⟨o,e,c,d⟩:=st
  exact⟨o,e,fun v z=>by rw[d]at z;cases z⟩
 keep:=fun i h h' st k=>by
  obtain⟨o,e,c,d⟩:=st
  exact⟨o,k it (by simp) o e,c,d⟩
 item:=by
  intro X hP hw hK hc i pins s σ H E I hf st hg
  subst hP hw hK
  obtain⟨c,hx⟩:=hg
  obtain⟨f0,f1,f2,f3,f4,f5⟩:=hf it (by simp)
  rcases hty with rfl | rfl
  ·refine wpAny_pyNext_ascii_item st hx fun h' st' sb=>?_
   have I1:Inv X pins σ H {s with heap:=h',toks:=s.toks+1}:=I.turned (t':=s.toks+1) (fun b o hb e=>(sb.2 b hb).trans e) f0 f1 f3 f4 f5
   obtain⟨o,e,c',d⟩:=id st'
   exact⟨_,rfl,aR6 (s:={s with heap:=h',toks:=s.toks+1}) e c' d (by decide) ⟨.str ⟨#[c]⟩,H,I1,⟨_,rfl⟩,⟨rfl,c,hx,rfl⟩,st',fun b hb=>(hf b hb).1⟩⟩
  ·refine wpAny_pyNext_wide_item st hx fun h' st' sb=>?_
   have I1:Inv X pins σ H {s with heap:=h',toks:=s.toks+1}:=I.turned (t':=s.toks+1) (fun b o hb e=>(sb.2 b hb).trans e) f0 f1 f3 f4 f5
   obtain⟨o,e,c',d⟩:=id st'
   exact⟨_,rfl,aR6 (s:={s with heap:=h',toks:=s.toks+1}) e c' d (by decide) ⟨.str ⟨#[c]⟩,H,I1,⟨_,rfl⟩,⟨rfl,c,hx,rfl⟩,st',fun b hb=>(hf b hb).1⟩⟩
 done:=by
  intro X hP hw hK hc i pins s σ H E I hf st hg
  subst hP hw hK
  have hx:x.cps[i]? = none:=hg
  obtain⟨f0,f1,f2,f3,f4,f5⟩:=hf it (by simp)
  rcases hty with rfl | rfl
  ·exact wpAny_pyNext_ascii_end (I.ok.hd hc) st hx fun h' eb=>⟨rfl,I.turned (t':=s.toks) (fun b o hb e=>eb b o hb e) f0 f1 f3 f4 f5⟩
  ·exact wpAny_pyNext_wide_end (I.ok.hd hc) st hx fun h' eb=>⟨rfl,I.turned (t':=s.toks) (fun b o hb e=>eb b o hb e) f0 f1 f3 f4 f5⟩
 self:=fun _ _ _ _ _ st h=>by
  rcases hty with rfl | rfl
  ·exact wpAny_pyIter_striter_ascii st h
  ·exact wpAny_pyIter_striter_wide st h
def dM5:V->Option Int->Option Int->Hp->VK->Prop:=fun x lo hi H Q=>∃ z,x=.str z/\z.length<=sizeLine/\Q (.str (PySem.Txt.slice z lo hi)) H
theorem cU6:SlR X dM5:=by
 intro pins s σ H x v vl vu lo hi sl Q I rx hs pl pu h
 obtain⟨z,rfl,hz,q⟩:=h
 obtain⟨t,rfl⟩:=rx
 refine⟨"str",_,F.slot_str_getitem.lookup,typeIs_str _ _ _,?_⟩
 have fin:∀ t' k,EP X pins σ Q (.str (PySem.Txt.slice z lo hi) t') {s with toks:=k}:=fun t' k=>⟨.str _,H,I.tok k,⟨t',rfl⟩,q⟩
 have hle:(PySem.Txt.slice z lo hi).length<=sizeLine:=Nat.le_trans (PySem.Txt.slice_le z lo hi) hz
 cases pl with
 | none=>
   cases pu with
   | none=>exact wpAny_getItem_str_slice (l:=none) (u:=none) (st:=none) hs rfl (post_val_or_str ⟨hle,fin⟩)
   | int j t2=>exact wpAny_getItem_str_slice (l:=none) (u:=some (j,t2)) (st:=none) hs rfl (post_val_or_str ⟨hle,fin⟩)
 | int i t1=>
   cases pu with
   | none=>exact wpAny_getItem_str_slice (l:=some (i,t1)) (u:=none) (st:=none) hs rfl (post_val_or_str ⟨hle,fin⟩)
   | int j t2=>exact wpAny_getItem_str_slice (l:=some (i,t1)) (u:=some (j,t2)) (st:=none) hs rfl (post_val_or_str ⟨hle,fin⟩)
theorem aN4{ys:List Str}:∀ {us:List Value},cF (ys.map V.str) us->StrsAre us ys:=by
 induction ys with
 | nil=>intro us r;cases r;exact .nil
 | cons y r ih=>
   intro us h
   cases h with
   | cons h1 h2=>
     obtain⟨t,rfl⟩:=h1
     exact .cons y t (ih h2)
def bQ1(K:PySem.W.Frag):V->List V->Hp->VK->Prop:=fun x vs H Q=>∃ sep a ys,x=.str sep/\vs=[.ref a]/\SqL K H a (ys.map V.str)/\(ys.map (·.length)).sum+ys.length*sep.length<=16777216/\Q (.str (PySem.Txt.join sep ys)) H
theorem cG9:MtR X "str.join" (bQ1 X.K):=by
 intro pins s σ H x vs v us Q I rx rv h
 obtain⟨sep,a,ys,rfl,rfl,ha,hz,q⟩:=h
 obtain⟨t,rfl⟩:=rx
 obtain⟨u,rfl,ru⟩:=rv.one
 cases ru
 obtain⟨its,r,p,_⟩:=I.list ha
 exact join_list p.isList (by simpa using aN4 r) hz fun t' k=>⟨.str _,H,I.tok k,⟨t',rfl⟩,q⟩
theorem zQ:kW X (.builtin "isinstance") (fun xs H Q=>∃ x c t b,xs=[x,.ty c]/\TyOf X.K H x t/\PySem.W.kitOne X.K t (.type c)=some b/\Q (.bl b) H):=by
 intro pins s σ H xs us Q I r h
 obtain⟨x,c,t,b,rfl,ty,e,q⟩:=h
 obtain⟨u,w',rfl,ru,rw'⟩:=bP3 r
 cases (show w'=Value.type c from rw')
 exact aS7 I ru ty e fun tk=>⟨.bl b,H,I.tok tk,rfl,q⟩
end
end L2
namespace L2
open PySem PySem.Spec PyProof.Rows
structure Tag(Q:VK):Type where mk ::
def Ask(sp:Sp)(vs:List V)(H:Hp)(E:XK)(Q:VK)(_:Tag Q):Prop:=sp vs H Q E
section
variable{σ:St}{H:Hp}{Q:VK}{v x y:V}{n:Nat}{i j:Int}{a b:Bool}{D:Ends}
theorem uM{r:St}:aG5 0 (some v::r) H Q=Q v H:=propext ⟨fun⟨_,e,q⟩=>by cases e;exact q,fun q=>⟨_,rfl,q⟩⟩
theorem uN{o:Option V}{r:St}:aG5 (n+1) (o::r) H Q=aG5 n r H Q:=rfl
theorem dC5:tC v σ H Q=Q v H:=rfl
theorem bQ2{r:R2}{ta tb:TE}:tOp r ta tb σ H Q=ta σ H fun x H1=>tb σ H1 fun y H2=>r x y H2 Q:=rfl
theorem bQ3{r:V->Hp->VK->Prop}{ta:TE}:tUn r ta σ H Q=ta σ H fun x H1=>r x H1 Q:=rfl
theorem aH2{g:Int->Int->V}:rI0 g (.int i) (.int j) H Q=Q (g i j) H:=propext ⟨fun⟨_,_,e,e',q⟩=>by cases e;cases e';exact q,fun q=>⟨_,_,rfl,rfl,q⟩⟩
theorem aN5{C:Int->Int->Prop}{g:Int->Int->V}(h:C i j):rI C g (.int i) (.int j) H Q=Q (g i j) H:=propext ⟨fun⟨_,_,e,e',_,q⟩=>by cases e;cases e';exact q,fun q=>⟨_,_,rfl,rfl,h,q⟩⟩
theorem bQ4{R:Bool->Prop}:(∃ k,V.bl a=V.bl k/\R k)=R a:=propext ⟨fun⟨_,e,q⟩=>by cases e;exact q,fun q=>⟨_,rfl,q⟩⟩
theorem uO{t:TE}{R:Bool->Hp->Prop}:cF8 t σ H R=t σ H fun x H'=>∃ k,x=.bl k/\R k H':=rfl
theorem bQ5{t:TE}{R:Bool->Hp->Prop}:tB t σ H R=t σ H fun x H'=>∃ k,x=.bl k/\R k H':=rfl
theorem aH3{t u:TT}{R:Bool->Hp->Prop}:dI5 t u σ H R=t σ H fun c H1=>if c=true then u σ H1 R else R false H1:=rfl
theorem bQ6{t u:TT}{R:Bool->Hp->Prop}:tOr t u σ H R=t σ H fun c H1=>if c=true then R true H1 else u σ H1 R:=rfl
theorem aH4{t:TT}{R:Bool->Hp->Prop}:dI6 t σ H R=t σ H fun c H1=>R (!c) H1:=rfl
theorem uP{t u:TE}:bO7 t u σ H Q=t σ H fun x H1=>∃ c,x=.bl c/\if c=true then u σ H1 Q else Q (.bl false) H1:=rfl
theorem aH5{t u:TE}:dL4 t u σ H Q=t σ H fun x H1=>∃ c,x=.bl c/\if c=true then Q (.bl true) H1 else u σ H1 Q:=rfl
theorem uQ{t:TE}:cF2 t σ H Q=t σ H fun x H1=>∃ c,x=.bl c/\Q (.bl (!c)) H1:=rfl
theorem pW{r r':R2}{ta tb tc:TE}:aG7 r r' ta tb tc σ H Q=ta σ H fun x H1=>tb σ H1 fun y H2=>r x y H2 fun z H3=>∃ k,z=.bl k/\if k=true then tc σ H3 (fun u H4=>r' y u H4 Q)else Q (.bl false) H3:=rfl
theorem aH6{t:TT}{ta tb:TE}:tIf t ta tb σ H Q=t σ H fun c H1=>if c=true then ta σ H1 Q else tb σ H1 Q:=rfl
theorem qZ{t u:TS}:cR9 t u D σ H=t {D with nx:=u D} σ H:=rfl
theorem uR:cR8 D σ H=D.nx σ H:=rfl
theorem uT{te:TE}:cS0 te D σ H=te σ H fun _ H1=>D.nx σ H1:=rfl
theorem aH7{te:TE}:dI7 te D σ H=te σ H D.rt:=rfl
theorem uU:dE3 D σ H=D.rt .non H:=rfl
theorem aH8{c:TT}{t u:TS}:dI8 c t u D σ H=c σ H fun b H1=>if b=true then t D σ H1 else u D σ H1:=rfl
theorem aH9{te:TE}{g:TG}:bN9 te g D σ H=te σ H fun x H1=>g x σ H1 D.nx:=rfl
theorem pX{R:St->Hp->Prop}:pH n v σ H R=R (σ.set n (some v)) H:=rfl
theorem uV{to ti:TE}{t:dC1}{R:St->Hp->Prop}:dE5 to ti t v σ H R=to σ H fun o H1=>ti σ H1 fun i H2=>t o i v H2 fun H3=>R σ H3:=rfl
theorem aI0{R:List V->Hp->Prop}:cA7 σ H R=R [] H:=rfl
theorem uW{ta:TE}{tr:TA}{R:List V->Hp->Prop}:lL ta tr σ H R=ta σ H fun x H1=>tr σ H1 fun xs H2=>R (x::xs) H2:=rfl
theorem uX{sp:Sp}{E:XK}{t:TA}:aM6 sp [] E t σ H Q=t σ H fun vs H1=>Ask sp vs H1 E Q ⟨⟩:=by
 unfold aM6 Ask;simp only[List.append_nil]
theorem bQ7{r:List V->Hp->VK->Prop}{t:TA}:tCB r t σ H Q=t σ H fun vs H1=>r vs H1 Q:=rfl
theorem bQ8{r:V->Option Int->Option Int->Hp->VK->Prop}{te:TE}{tl th:TO}:tSl r te tl th σ H Q=te σ H fun x H1=>tl σ H1 fun l H2=>th σ H2 fun u H3=>r x l u H3 Q:=rfl
theorem mK{R:Option Int->Hp->Prop}:aT1 σ H R=R none H:=rfl
theorem uY{t:TE}{R:Option Int->Hp->Prop}:cT2 t σ H R=t σ H fun x H1=>∃ i,x=.int i/\R (some i) H1:=rfl
theorem mL{R:Int->Prop}:(∃ k,V.int i=V.int k/\R k)=R i:=propext ⟨fun⟨_,e,q⟩=>by cases e;exact q,fun q=>⟨_,rfl,q⟩⟩
theorem uZ{R:Bool->Hp->Prop}:cU5 σ H R=R true H:=rfl
end
end L2
namespace L2
open PySem PySem.Spec PyProof.Rows
def eP(H:Hp)(p:Addr):Option (Bool×List V):=match H p with
 | some (.lst xs)=>some (true,xs)
 | some (.tup xs)=>some (false,xs)
 | some (.frz _ (.lst xs))=>some (true,xs)
 | _=>none
theorem aU{H:Hp}{p:Addr}{xs:List V}(h:H p=some (.lst xs)):eP H p=some (true,xs):=by unfold eP;rw[h]
theorem cJ{H:Hp}{p:Addr}{xs:List V}(h:H p=some (.tup xs)):eP H p=some (false,xs):=by unfold eP;rw[h]
theorem bQ9{H:Hp}{p:Addr}{o:Obj}{xs:List V}(h:H p=some (.frz o (.lst xs))):eP H p=some (true,xs):=by unfold eP;rw[h]
theorem eY{K:PySem.W.Frag}{H:Hp}{p:Addr}{xs:List V}(h:eP H p=some (true,xs)):SqL K H p xs:=by
 unfold eP at h
 split at h
 ·rename_i e;cases h;exact .inl (.inl e)
 ·cases h
 ·rename_i o ys e;cases h;exact .inl (.inr ⟨o,e⟩)
 ·cases h
theorem dS{K:PySem.W.Frag}{H:Hp}{p:Addr}{xs:List V}(h:eP H p=some (false,xs)):SqT K H p xs:=by
 unfold eP at h
 split at h
 ·cases h
 ·rename_i e;cases h;exact .inl (.inl e)
 ·cases h
 ·cases h
def ixF(H:Hp)(x y:V):Option V:=match x,y with
 | .ref p,.int i=>(eP H p).bind fun q=>atI q.2 i
 | .str z,.int i=>if z.length<=sizeLine then(atI z.cps.toList i).map fun c=>.str ⟨#[c]⟩else none
 | _,_=>none
def cU7(H:Hp)(x:V):Option Nat:=match x with
 | .ref p=>(eP H p).map (·.2.length)
 | .str z=>if z.length<=sizeLine then some z.length else none
 | _=>none
def dF4:R2:=fun x y H Q=>∃ v,ixF H x y=some v/\Q v H
section
variable{X:Cx}
theorem xD:IxR X dF4:=by
 intro value slice pins s σ H x y v u Q I rx ry h hs
 obtain⟨z,e,q⟩:=h
 unfold ixF at e
 split at e
 ·rename_i p i
  cases hq:eP H p with
  | none=>rw[hq]at e;cases e
  | some w=>
    obtain⟨b,xs⟩:=w
    rw[hq]at e
    cases b with
    | true=>exact cG2 value slice pins s σ H _ _ v u Q I rx ry ⟨p,xs,i,z,rfl,rfl,eY hq,e,q⟩ hs
    | false=>exact cT5 value slice pins s σ H _ _ v u Q I rx ry ⟨p,xs,i,z,rfl,rfl,dS hq,e,q⟩ hs
 ·rename_i t i
  split at e
  ·rename_i hz
   cases hc:atI t.cps.toList i with
   | none=>rw[hc]at e;cases e
   | some c=>
     rw[hc]at e
     cases e
     exact cT6 value slice pins s σ H _ _ v u Q I rx ry ⟨t,i,c,rfl,rfl,hz,hc,q⟩ hs
  ·cases e
 ·cases e
def bR0:List V->Hp->VK->Prop:=fun xs H Q=>∃ x n,xs=[x]/\cU7 H x=some n/\Q (.int n) H
theorem aR:kW X (.builtin "len") bR0:=by
 intro pins s σ H xs us Q I r h
 obtain⟨x,n,rfl,e,q⟩:=h
 unfold cU7 at e
 split at e
 ·rename_i p
  cases hq:eP H p with
  | none=>rw[hq]at e;cases e
  | some w=>
    obtain⟨b,xs⟩:=w
    rw[hq]at e
    cases e
    cases b with
    | true=>exact oP pins s σ H _ us Q I r ⟨p,xs,rfl,.inl (eY hq),q⟩
    | false=>exact oP pins s σ H _ us Q I r ⟨p,xs,rfl,.inr (dS hq),q⟩
 ·rename_i z
  split at e
  ·rename_i hz
   cases e
   exact xP pins s σ H _ us Q I r ⟨z,rfl,hz,q⟩
  ·cases e
 ·cases e
def dF5:V->Option Int->Option Int->Hp->VK->Prop:=fun x lo hi H Q=>match x with
 | .str z=>z.length<=sizeLine/\Q (.str (PySem.Txt.slice z lo hi)) H
 | .ref p=>(∃ xs,eP H p=some (true,xs)/\∀ r,H r=none->Q (.ref r) (upd H r (.lst (pU xs lo hi)))) \/
   ∃ xs,eP H p=some (false,xs)/\¬ (HT.sIx xs.length 0 lo=0/\HT.sIx xs.length xs.length hi=xs.length)/\∀ r,H r=none->Q (.ref r) (upd H r (.tup (pU xs lo hi)))
 | _=>False
theorem cB3:SlR X dF5:=by
 intro pins s σ H x v vl vu lo hi sl Q I rx hs pl pu h
 unfold dF5 at h
 split at h
 ·rename_i z
  exact cU6 pins s σ H _ v vl vu lo hi sl Q I rx hs pl pu ⟨z,rfl,h.1,h.2⟩
 ·rename_i p
  rcases h with⟨xs,hq,q⟩ | ⟨xs,hq,hw,q⟩
  ·exact cG4 pins s σ H _ v vl vu lo hi sl Q I rx hs pl pu ⟨p,xs,rfl,eY hq,q⟩
  ·exact cT3 pins s σ H _ v vl vu lo hi sl Q I rx hs pl pu ⟨p,xs,rfl,dS hq,hw,q⟩
 ·exact h.elim
def dF6(K:PySem.W.Frag)(tl:TE):TI:=fun σ H R=>tl σ H fun x H1=>match x with
 | .str z=>R (Its z) H1
 | .ref p=>(∃ xs,eP H1 p=some (true,xs)/\R (Itl K p) H1)\/∃ xs,eP H1 p=some (false,xs)/\R (Itt K p) H1
 | _=>False
theorem cU8{tg l:Expr}{tl:TE}(hl:PE X l tl):PI X tg l (dF6 X.K tl):=by
 intro pins s σ H R I h
 refine thn (hl pins s σ H _ I h) fun v s1 ⟨x,H1,I1,r1,q1⟩=>?_
 dsimp only at q1
 split at q1
 ·rename_i x
  obtain⟨t,rfl⟩:=r1
  cases ha:x.cps.all (· < 128)with
  | true=>
    refine wpAny_pyIter_ascii ha ?_
    refine⟨s1.heap.objs.size,[s1.heap.objs.size],_,_,H1,rfl,I1.kept (t':=s1.toks) fun b o e=>Heap.get?_push_of_some _ e,aH1 x t _ _ (.inl rfl),⟨_,Heap.get?_push_size _ rfl,rfl,rfl⟩,fun b hb=>?_,q1⟩
    have e:b=s1.heap.objs.size:=by simpa using hb
    subst e
    exact I1.fpOk (Nat.le_refl _) (I1.hok.fresh (Nat.le_refl _))
  | false=>
    refine wpAny_pyIter_wide ha ?_
    refine⟨s1.heap.objs.size,[s1.heap.objs.size],_,_,H1,rfl,I1.kept (t':=s1.toks) fun b o e=>Heap.get?_push_of_some _ e,aH1 x t _ _ (.inr rfl),⟨_,Heap.get?_push_size _ rfl,rfl,rfl⟩,fun b hb=>?_,q1⟩
    have e:b=s1.heap.objs.size:=by simpa using hb
    subst e
    exact I1.fpOk (Nat.le_refl _) (I1.hok.fresh (Nat.le_refl _))
 ·rename_i a
  cases r1
  rcases q1 with⟨xs,hq,q⟩ | ⟨xs,hq,q⟩
  ·obtain⟨its,rv,p,hz⟩:=I1.list (eY hq)
   refine wpAny_pyIter_list p.isList ?_
   refine⟨s1.heap.objs.size,[s1.heap.objs.size],_,_,H1,rfl,I1.kept (t':=s1.toks) fun b o e=>Heap.get?_push_of_some _ e,aR7 a _,⟨_,Heap.get?_push_size _ rfl,rfl,rfl⟩,fun b hb=>?_,q⟩
   have e:b=s1.heap.objs.size:=by simpa using hb
   subst e
   exact I1.fpOk (Nat.le_refl _) (I1.hok.fresh (Nat.le_refl _))
  ·obtain⟨its,rv,p,hz⟩:=I1.tuple (dS hq)
   refine wpAny_pyIter_tuple (show s1.heap.IsTuple a its.toArray from p) ?_
   refine⟨s1.heap.objs.size,[s1.heap.objs.size],_,_,H1,rfl,I1.kept (t':=s1.toks) fun b o e=>Heap.get?_push_of_some _ e,aM1 a _,⟨_,Heap.get?_push_size _ rfl,rfl,rfl⟩,fun b hb=>?_,q⟩
   have e:b=s1.heap.objs.size:=by simpa using hb
   subst e
   exact I1.fpOk (Nat.le_refl _) (I1.hok.fresh (Nat.le_refl _))
 ·exact q1.elim
def cB4(N:List Str)(sc scope:Scope)(own:List Nat):Bool:=
 (match scope.kind with | .function=>true | _=>false) &&
 scope.names.all (fun y=>match y.2 with
  | .cell=>(match scope.names.lookup y.1 with | some .cell=>true | _=>false)
  | .local=>(match scope.names.lookup y.1 with | some .local=>true | _=>false)
  | .free=>(match sc.names.lookup y.1 with | some .cell=>true | some .free=>true | _=>false)
  | _=>true) &&
 (List.range N.length).all fun i=>match N[i]? with
  | some x=>(match scope.names.lookup x with | some .local=>own.contains i | some .cell=>own.contains i | _=>true)
  | none=>true
theorem csc{scope:Scope}(own:List Nat)(h:cB4 X.N X.env.scope scope own=true)(hc:X.calm=true:=by rfl):CompScope X scope own:=by
 unfold cB4 at h
 rw[Bool.and_eq_true,Bool.and_eq_true]at h
 obtain⟨⟨h1,h2⟩,h3⟩:=h
 rw[List.all_eq_true]at h2 h3
 refine⟨?_,fun y hy e=>?_,fun y hy e=>?_,fun y hy e=>?_,fun i x e1 e2=>?_,hc⟩
 ·revert h1;cases scope.kind<;>simp
 ·have:=h2 y hy;rw[e]at this
  dsimp only at this
  split at this
  ·assumption
  ·cases this
 ·have:=h2 y hy;rw[e]at this
  dsimp only at this
  split at this
  ·assumption
  ·cases this
 ·have:=h2 y hy;rw[e]at this
  dsimp only at this
  show X.env.scope.names.lookup y.1=some .cell\/X.env.scope.names.lookup y.1=some .free
  split at this
  ·rename_i q;exact .inl q
  ·rename_i q;exact .inr q
  ·cases this
 ·have hi:i < X.N.length:=(List.getElem?_eq_some_iff.mp e1).1
  have:=h3 i (List.mem_range.mpr hi)
  rw[e1]at this
  dsimp only at this
  rcases e2 with e2 | e2<;>rw[e2]at this<;>simpa using this
end
end L2
namespace L2
open PySem PySem.Spec PyProof.Rows
structure ItIs(J:It)(xs:List V)(P:Hp->Prop):Prop where
 go:∀ H i x,P H->xs[i]? = some x->J.go i H
 yld:∀ H i x y H',P H->xs[i]? = some x->J.yld i H y H'->H'=H/\y=x
 stop:∀ H i,P H->xs[i]? = none->J.stop i H
theorem jR{K:PySem.W.Frag}{a:Addr}{xs:List V}:ItIs (Itl K a) xs (fun H=>SqL K H a xs) where
 go:=fun H i x h e=>⟨xs,x,h,e⟩
 yld:=fun H i x y H' h e ⟨e1,e2⟩=>⟨e1,by have:=e2 xs h;rw[e]at this;exact(Option.some.inj this).symm⟩
 stop:=fun H i h e=>⟨xs,h,List.getElem?_eq_none_iff.mp e⟩
theorem bR1{K:PySem.W.Frag}{a:Addr}{xs:List V}:ItIs (Itt K a) xs (fun H=>SqT K H a xs) where
 go:=fun H i x h e=>⟨xs,x,h,e⟩
 yld:=fun H i x y H' h e ⟨e1,e2⟩=>⟨e1,by have:=e2 xs h;rw[e]at this;exact(Option.some.inj this).symm⟩
 stop:=fun H i h e=>⟨xs,h,List.getElem?_eq_none_iff.mp e⟩
def cH0(lo:Int)(n:Nat):List V:=(List.range n).map fun(i:Nat)=>V.int (lo+(i:Int))
theorem kN{lo:Int}{n i:Nat}{x:V}(h:(cH0 lo n)[i]? = some x):i < n/\x=.int (lo+i):=by
 unfold cH0 at h
 rw[List.getElem?_map]at h
 cases e:(List.range n)[i]? with
 | none=>rw[e]at h;cases h
 | some k=>
   rw[e]at h
   obtain⟨hi,hk⟩:=List.getElem?_eq_some_iff.mp e
   rw[List.length_range]at hi
   rw[List.getElem_range]at hk
   subst hk
   exact⟨hi,(Option.some.inj h).symm⟩
theorem eS(lo:Int)(n:Nat):(cH0 lo n).length=n:=by simp[cH0]
theorem kO{lo:Int}{n:Nat}{P:Hp->Prop}:ItIs (Itr lo n) (cH0 lo n) P where
 go:=fun H i x _ e=>(kN e).1
 yld:=fun H i x y H' _ e ⟨e1,e2⟩=>⟨e1,by rw[(kN e).2];exact e2⟩
 stop:=fun H i _ e=>by
  have:=List.getElem?_eq_none_iff.mp e
  rw[eS]at this
  exact this
def eZ(x:Str):List V:=x.cps.toList.map fun c=>.str ⟨#[c]⟩
theorem fQ(x:Str):(eZ x).length=x.length:=by simp[eZ,Str.length]
theorem bR2{x:Str}{P:Hp->Prop}:ItIs (Its x) (eZ x) P where
 go:=fun H i v _ e=>by
  unfold eZ at e
  rw[List.getElem?_map]at e
  cases q:x.cps.toList[i]? with
  | none=>rw[q]at e;cases e
  | some c=>exact⟨c,by simpa using q⟩
 yld:=fun H i v y H' _ e ⟨e1,c,e2,e3⟩=>⟨e1,by
  unfold eZ at e
  rw[List.getElem?_map]at e
  have q:x.cps.toList[i]? = some c:=by simpa using e2
  rw[q]at e
  cases e
  exact e3⟩
 stop:=fun H i _ e=>by
  have h1:=List.getElem?_eq_none_iff.mp e
  rw[fQ]at h1
  show x.cps[i]? = none
  rw[Array.getElem?_eq_none_iff]
  exact h1
theorem vA{J:It}{xs:List V}{P:Hp->Prop}(w:ItIs J xs P){own:List Nat}{g:TG}{tt:TT}{te:TE}{σ:St}{H1:Hp}{F:List V->Hp->Prop}(Pv:Nat->List V->Hp->Prop)(h0:Pv 0 [] H1)
  (hP:∀ i ys H,Pv i ys H->P H/\ys.length<=i) (hn:xs.length<=sizeLine)
  (step:∀ i x ys H (N:List V->Hp->Prop),xs[i]? = some x->Pv i ys H->(∀ ys' H',Pv (i+1) ys' H'->N ys' H')->g x (blank own σ) H fun σ2 H2=>tt σ2 H2 fun b H3=>if b=true then te σ2 H3 fun v H4=>N (ys++[v]) H4 else N ys H3)
  (fin:∀ ys H,Pv xs.length ys H->F ys H) :
  ∃ W:Nat->Nat->List V->Hp->Prop,(∃ m,W 0 m [] H1)/\∀ i m ys H,W i m ys H->ys.length<=sizeLine /\
  ((J.stop i H/\F ys H)\/(J.go i H/\∀ x H',J.yld i H x H'->g x (blank own σ) H' fun σ2 H2=>tt σ2 H2 fun b H3=>
    if b=true then te σ2 H3 fun v H4=>∃ m',m' < m/\W (i+1) m' (ys++[v]) H4 else ∃ m',m' < m/\W (i+1) m' ys H3)):=by
 refine⟨fun i m ys H=>m=xs.length-i/\i<=xs.length/\Pv i ys H,⟨xs.length,by simp,Nat.zero_le _,h0⟩,?_⟩
 rintro i m ys H ⟨rfl,hi,p⟩
 obtain⟨hp,hl⟩:=hP i ys H p
 refine⟨by omega,?_⟩
 by_cases hlt:i < xs.length
 ·have e:xs[i]? = some xs[i]:=List.getElem?_eq_getElem hlt
  refine .inr ⟨w.go H i _ hp e,fun x H' y=>?_⟩
  obtain⟨rfl,rfl⟩:=w.yld H i _ x H' hp e y
  exact step i _ ys H' (fun ys' H4=>∃ m',m' < xs.length-i/\m'=xs.length-(i+1)/\i+1<=xs.length/\Pv (i+1) ys' H4) e p fun ys' H4 q=>⟨xs.length-(i+1),by omega,rfl,hlt,q⟩
 ·have e:i=xs.length:=by omega
  subst e
  exact .inl ⟨w.stop H _ hp (List.getElem?_eq_none_iff.mpr (Nat.le_refl _)),fin ys H p⟩
theorem aI1{J:It}{xs:List V}{P:Hp->Prop}(w:ItIs J xs P){g:TG}{tb:TS}{D:Ends}{σ:St}{H:Hp}(Pv:Nat->St->Hp->Prop)(h0:Pv 0 σ H)(hP:∀ i σ H,Pv i σ H->P H)
  (hs:∀ i x σ H,xs[i]? = some x->Pv i σ H->g x σ H fun σ2 H2=>tb {D with nx:=Pv (i+1),ct:=Pv (i+1),bk:=D.nx} σ2 H2) (hd:∀ σ H,Pv xs.length σ H->D.nx σ H) :
  ∃ W:Nat->Nat->St->Hp->Prop,(∃ m,W 0 m σ H)/\∀ i m σ H,W i m σ H ->
    (J.stop i H/\D.nx σ H)\/(J.go i H/\∃ N:St->Hp->Prop,(∀ σ' H',N σ' H'->∃ m',m' < m/\W (i+1) m' σ' H')/\∀ x H',J.yld i H x H'->g x σ H' fun σ2 H2=>tb {D with nx:=N,ct:=N,bk:=D.nx} σ2 H2):=by
 refine⟨fun i m σ H=>m=xs.length-i/\i<=xs.length/\Pv i σ H,⟨xs.length,by simp,Nat.zero_le _,h0⟩,?_⟩
 rintro i m σ H ⟨rfl,hi,p⟩
 have q:=hP i σ H p
 by_cases hlt:i < xs.length
 ·have e:xs[i]? = some xs[i]:=List.getElem?_eq_getElem hlt
  refine .inr ⟨w.go H i _ q e,Pv (i+1),fun σ' H' p'=>⟨xs.length-(i+1),by omega,rfl,hlt,p'⟩,fun x H' y=>?_⟩
  obtain⟨rfl,rfl⟩:=w.yld H i _ x H' q e y
  exact hs i _ σ _ e p
 ·have e:i=xs.length:=by omega
  subst e
  exact .inl ⟨w.stop H _ q (List.getElem?_eq_none_iff.mpr (Nat.le_refl _)),hd σ H p⟩
section
variable{σ:St}{H:Hp}{Q:VK}{z:Str}{p q:Addr}{xs ys:List V}{i j:Int}{b:Bool}{v x y:V}
theorem bR3(h:z.length<=sizeLine):cU7 H (.str z)=some z.length:=by show(if z.length<=sizeLine then some z.length else none)=_;rw[if_pos h]
theorem vB(h:eP H p=some (b,xs)):cU7 H (.ref p)=some xs.length:=by show(eP H p).map (·.2.length)=_;rw[h];rfl
theorem cU9{n:Nat}(h:cU7 H x=some n):bR0 [x] H Q=Q (.int n) H:=
 propext ⟨fun⟨x',n',e,f,q⟩=>by cases e;rw[h]at f;cases f;exact q,fun q=>⟨_,n,rfl,h,q⟩⟩
theorem eC(h:eP H p=some (b,xs)):bR0 [.ref p] H Q=Q (.int xs.length) H:=cU9 (vB h)
theorem jS(h:ixF H x y=some v):dF4 x y H Q=Q v H:=propext ⟨fun⟨_,e,q⟩=>by rw[h]at e;cases e;exact q,fun q=>⟨v,h,q⟩⟩
theorem eJ(h:eP H p=some (b,xs))(e:atI xs i=some v):ixF H (.ref p) (.int i)=some v:=by show(eP H p).bind (fun q=>atI q.2 i)=_;rw[h];exact e
theorem cH1{c:Nat}(h:z.length<=sizeLine)(e:atI z.cps.toList i=some c):ixF H (.str z) (.int i)=some (.str ⟨#[c]⟩):=by
 show(if z.length<=sizeLine then(atI z.cps.toList i).map fun c=>V.str ⟨#[c]⟩else none)=_;rw[if_pos h,e];rfl
end
theorem bR4{X:Cx}{x z:Str}{pos:Pos}(hg:Gl X x)(h:∃ t,X.mg x=some (.str z t))(hd:(x==("__debug__":Str))=false:=by decide):PE X (.Name x pos) (tC (.str z)):=
 let ⟨_,e⟩:=h;lJ hg e ⟨_,rfl⟩ hd
theorem bR5{X:Cx}{x:Str}{i:Int}{pos:Pos}(hg:Gl X x)(h:∃ t,X.mg x=some (.int i t))(hd:(x==("__debug__":Str))=false:=by decide):PE X (.Name x pos) (tC (.int i)):=
 let ⟨_,e⟩:=h;lJ hg e ⟨_,rfl⟩ hd
theorem dF7{i j:Int}(h1:-(2 ^ 64) < j)(h2:j < 2 ^ 64):bP0 i j:=.inr ⟨h1,h2⟩
end L2
namespace L2
open PySem PySem.Spec PyProof.Rows
section
variable{σ:St}{H:Hp}{Q:VK}{p:Addr}{xs:List V}{k:Int}{j:Nat}{v:V}
theorem aT8{R:Hp->Prop}(h:H p=some (.lst xs))(e:ixN xs.length k=some j):cG3 (.ref p) (.int k) v H R=R (upd H p (.lst (xs.set j v))):=
 propext ⟨fun⟨p',ys,k',j',e1,e2,h',e',q⟩=>by cases e1;cases e2;rw[h]at h';cases h';rw[e]at e';cases e';exact q,fun q=>⟨p,xs,k,j,rfl,rfl,h,e,q⟩⟩
theorem aI2{i j:Int}(h1:-(2 ^ 64) < j)(h2:j < 2 ^ 64):bP0 i j=True:=eq_true (.inr ⟨h1,h2⟩)
theorem bR6{i j:Int}(h1:0 < j)(h2:j < 1073741824):cS3 i j=True:=eq_true ⟨h1,h2⟩
theorem lY{sp:Sp}{vs:List V}{E:XK}{t:Tag Q}(h:sp vs H Q E):Ask sp vs H E Q t:=h
theorem oS{α:Type}{ys:List α}{i:Int}(h0:0<=i)(h1:i < ys.length):∃ c,atI ys i=some c:=by
 obtain⟨n,rfl⟩:=Int.eq_ofNat_of_zero_le h0
 have hn:n < ys.length:=by omega
 exact⟨ys[n],uI (List.getElem?_eq_getElem hn)⟩
theorem jT{α:Type}{ys:List α}{i:Int}{c:α}(h:atI ys i=some c):c∈ys:=by
 obtain⟨j,_,h2,_⟩:=uH h
 exact List.mem_of_getElem? h2
end
end L2
namespace L2
open PySem
theorem aT9{i j:Int}{g:Int->Int->V}{H:Hp}{Q:VK}(h:0 < j):rI (fun _ j=>0 < j) g (.int i) (.int j) H Q=Q (g i j) H:=aN5 h
theorem cH2{i j:Int}{g:Int->Int->V}{H:Hp}{Q:VK}(h:cS3 i j):rI cS3 g (.int i) (.int j) H Q=Q (g i j) H:=aN5 h
end L2
namespace L2
open PySem
theorem aI3{t:TA}{σ:St}{H:Hp}{Q:VK}:dJ2 t σ H Q=t σ H fun xs H1=>xs.length<=sizeLine/\∀ p,H1 p=none->Q (.ref p) (upd H1 p (.lst xs)):=rfl
theorem aI4{t:TA}{σ:St}{H:Hp}{Q:VK}:dC4 t σ H Q=t σ H fun xs H1=>xs.length<=sizeLine/\∀ p,H1 p=none->Q (.ref p) (upd H1 p (.tup xs)):=rfl
theorem bR7{K:PySem.W.Frag}{T:String}{r:V->List V->Hp->VK->Prop}{to:TE}{t:TA}{σ:St}{H:Hp}{Q:VK}:tBM K T r to t σ H Q=to σ H fun x H1=>tyV K T x H1/\t σ H1 fun xs H2=>r x xs H2 Q:=rfl
theorem oB{α β:Type}{f:α->β}{ys:List α}{i:Int}:atI (ys.map f) i=(atI ys i).map f:=by
 unfold atI
 rw[List.length_map]
 cases ixN ys.length i with
 | none=>rfl
 | some j=>simp
theorem bR{H:Hp}{p:Addr}{o:HO}(h:H p=none):lX H (upd H p o):=fun b u e=>by rw[aF (aE e h)];exact e
end L2
namespace L2
open PySem
def dF8(own:List Nat)(g:TG)(tt:TT)(te:TE)(σ:St)(J:It)(H1:Hp)(F:List V->Hp->Prop):Prop:=
 ∃ W:Nat->Nat->List V->Hp->Prop,(∃ m,W 0 m [] H1)/\∀ i m ys H,W i m ys H->ys.length<=sizeLine /\
   ((J.stop i H/\F ys H)\/(J.go i H/\∀ x H',J.yld i H x H'->g x (blank own σ) H' fun σ2 H2=>tt σ2 H2 fun b H3=>
     if b=true then te σ2 H3 fun v H4=>∃ m',m' < m/\W (i+1) m' (ys++[v]) H4 else ∃ m',m' < m/\W (i+1) m' ys H3))
def dM6(g:TG)(tb:TS)(D:Ends)(σ:St)(J:It)(H1:Hp):Prop:=∃ W:Nat->Nat->St->Hp->Prop,(∃ m,W 0 m σ H1)/\∀ i m σ H,W i m σ H ->
 (J.stop i H/\D.nx σ H)\/(J.go i H/\∃ N:St->Hp->Prop,(∀ σ' H',N σ' H'->∃ m',m' < m/\W (i+1) m' σ' H')/\∀ x H',J.yld i H x H'->g x σ H' fun σ2 H2=>tb {D with nx:=N,ct:=N,bk:=D.nx} σ2 H2)
theorem vC{own:List Nat}{wi:TI}{g:TG}{tt:TT}{te:TE}{σ:St}{H:Hp}{Q:VK}:aN2 own wi g tt te σ H Q=wi σ H fun J H1=>dF8 own g tt te σ J H1 fun ys H'=>∀ p,H' p=none->Q (.ref p) (upd H' p (.lst ys)):=rfl
theorem aI5{wi:TI}{g:TG}{tb:TS}{D:Ends}{σ:St}{H:Hp}:dC2 wi g tb D σ H=wi σ H fun J H1=>dM6 g tb D σ J H1:=rfl
def cH3(K:PySem.W.Frag)(x:V)(H1:Hp)(R:It->Hp->Prop):Prop:=match x with
 | .str z=>R (Its z) H1
 | .ref p=>(∃ xs,eP H1 p=some (true,xs)/\R (Itl K p) H1)\/∃ xs,eP H1 p=some (false,xs)/\R (Itt K p) H1
 | _=>False
theorem vD{K:PySem.W.Frag}{tl:TE}{σ:St}{H:Hp}{R:It->Hp->Prop}:dF6 K tl σ H R=tl σ H fun x H1=>cH3 K x H1 R:=rfl
theorem pY{K:PySem.W.Frag}{z:Str}{H:Hp}{R:It->Hp->Prop}:cH3 K (.str z) H R=R (Its z) H:=rfl
theorem pZ{K:PySem.W.Frag}{p:Addr}{xs:List V}{H:Hp}{R:It->Hp->Prop}(h:eP H p=some (true,xs)):cH3 K (.ref p) H R=R (Itl K p) H:=
 propext ⟨fun q=>by
  rcases q with⟨_,_,q⟩ | ⟨_,e,_⟩
  ·exact q
  ·rw[h]at e
   exact(nomatch e),fun q=>.inl ⟨xs,h,q⟩⟩
theorem vE{ta:TA}{σ:St}{H:Hp}{R:It->Hp->Prop}:cF4 ta σ H R=ta σ H fun vs H1=>∃ j:Int,vs=[.int j] /\ -(2 ^ 62)<=j/\j < 2 ^ 62/\R (Itr 0 j.toNat) H1:=rfl
theorem vF{ta:TA}{σ:St}{H:Hp}{R:It->Hp->Prop}:cF5 ta σ H R=ta σ H fun vs H1=>∃ i j:Int,vs=[.int i,.int j]/\(-(2 ^ 62)<=i/\i < 2 ^ 62 /\ -(2 ^ 62)<=j/\j < 2 ^ 62)/\R (Itr i (j-i).toNat) H1:=rfl
end L2
namespace L2
open PySem
theorem mM{σ:St}:blank [] σ=σ:=rfl
theorem mO{i:Nat}{r:List Nat}{σ:St}:blank (i::r) σ=blank r (σ.set i none):=rfl
theorem bR8{i j:Int}:decide (V.int i=V.int j)=decide (i=j):=by
 by_cases h:i=j
 ·subst h;simp
 ·rw[decide_eq_false h,decide_eq_false fun e=>h (V.int.inj e)]
theorem bR9{i j:Str}:decide (V.str i=V.str j)=decide (i=j):=by
 by_cases h:i=j
 ·subst h;simp
 ·rw[decide_eq_false h,decide_eq_false fun e=>h (V.str.inj e)]
theorem cH4(sep:Str)(ys:List Str):(PySem.Txt.join sep ys).length<=(ys.map (·.length)).sum+ys.length*sep.length:=by
 show(PySem.Builtin.Str.glued sep ys).length<=_
 rw[StrLaws.glued_eq_join]
 exact StrLaws.join_length_le sep ys
end L2
namespace L2
theorem up{p q:Prop}(h:p=q)(hq:q):p:=by rw[h];exact hq
end L2
namespace L2
theorem bS0{K:PySem.W.Frag}{t:String}:PySem.W.kitOne K (.type t) (.type t)=some true:=by
 unfold PySem.W.kitOne
 rw[if_pos (by simp)]
end L2
namespace L2
open PySem PySem.Spec PyProof.Rows
section
variable{prog:Program}{w:World}{A:Around}{E:Value->Shared->Prop}
theorem rA{it:Addr}{x:Str}{t:Tok}{ty:String}(hty:ty="str_ascii_iterator"\/ty="str_iterator"):∀ (n i:Nat) (s:Shared) (Q:List Value->Shared->Prop),s.heap.IsStrIter it ty x t i->i+n<=x.length ->
  (∀ h' tk us,h'.IsStrIter it ty x t (i+n)->Heap.SameBut it s.heap h'->cF (((eZ x).drop i).take n) us->Q us {s with heap:=h',toks:=tk})->wpAny (model prog w) A (draw (.ref it) n) Q E s
 | 0,i,s,Q,hit,_,hQ=>by
   show wpAny _ _ (pure []) Q E s
   exact wpAny_pure (by simpa using hQ s.heap s.toks [] hit (Heap.SameBut.refl ..) (by simpa using(.nil:cF [] [])))
 | n+1,i,s,Q,hit,hle,hQ=>by
   have hlt:i < x.cps.size:=by have:x.length=x.cps.size:=rfl;omega
   have hx:x.cps[i]? = some x.cps[i]:=by simp[hlt]
   have hd:(eZ x).drop i=V.str ⟨#[x.cps[i]]⟩::(eZ x).drop (i+1):=by
    rw[List.drop_eq_getElem_cons (by rw[fQ];exact hlt)]
    congr 1
    simp[eZ]
   show wpAny _ _ (pyNext (.ref it) >>= _) Q E s
   have go:∀ h₁,h₁.IsStrIter it ty x t (i+1)->Heap.SameBut it s.heap h₁ ->
     wpAny (model prog w) A (match (some (Value.str ⟨#[x.cps[i]]⟩ s.toks))with | none=>pure [] | some v=>do return v::(← holding [v] (draw (.ref it) n))) Q E {s with heap:=h₁,toks:=s.toks+1}:=fun h₁ hit₁ hs₁=>by
    refine wpAny_bind (wpAny_holding (rA hty n (i+1) _ _ hit₁ (by omega) fun h₂ tk us hit₂ hs₂ hv=>wpAny_pure ?_))
    refine hQ h₂ tk _ (by rw[show i+(n+1)=i+1+n by omega];exact hit₂) (hs₁.trans hs₂) ?_
    rw[hd,List.take_succ_cons]
    exact .cons ⟨_,rfl⟩ hv
   rcases hty with rfl | rfl
   ·exact wpAny_bind (wpAny_pyNext_ascii_item hit hx fun h₁ hit₁ hs₁=>go h₁ hit₁ hs₁)
   ·exact wpAny_bind (wpAny_pyNext_wide_item hit hx fun h₁ hit₁ hs₁=>go h₁ hit₁ hs₁)
theorem vG{s:Shared}{x:Str}{t:Tok}{targets:List (Bool×(Value->Sem Unit))}{Q:Unit->Shared->Prop}(hh:A.handled=none)
  (hn:targets.length=x.length) (hstar:targets.findIdx? (·.1)=none)
  (h:∀ h' tk us,Heap.ExtBut s.heap.objs.size s.heap h'->cF (eZ x) us->wpAny (model prog w) A (assignInOrder (targets.map (·.2)) us) Q E {s with heap:=h',toks:=tk}) :
  wpAny (model prog w) A (unpack (.str x t) targets) Q E s:=by
 unfold unpack
 rw[hn,hstar]
 refine wpAny_bind (wpAny_holding ?_)
 unfold unpackItems
 refine wpAny_bind ?_
 unfold notIterableAtAll
 refine wpAny_bind (wpAny_specialOf (typeIs_str _ _ _) PySem.F.slot_str_iter.lookup ?_)
 refine wpAny_pure ?_
 simp only[Bool.false_eq_true,if_false]
 have go:∀ ty,(ty="str_ascii_iterator"\/ty="str_iterator")->wpAny (model prog w) A (do
   let items ← holding [Value.ref s.heap.objs.size] (draw (.ref s.heap.objs.size) x.length)
   if items.length < x.length then
    rule "unpack.too-few";raiseError "ValueError" s!"not enough values to unpack (expected {x.length}, got {items.length})"
   if(← holding items (pyNext (.ref s.heap.objs.size))).isSome then
    rule "unpack.too-many";raiseError "ValueError" s!"too many values to unpack (expected {x.length})"
   return items:Sem (List Value)) (fun us s'=>wpAny (model prog w) A (assignInOrder (targets.map (·.2)) us) Q E s') E {s with heap:=s.heap.push {cls:=.type ty,data:=.fields #[.str x t,.int 0 0]}}:=by
  intro ty hty
  refine wpAny_bind (wpAny_holding (rA (it:=s.heap.objs.size) (x:=x) (t:=t) hty x.length 0 _ _ ⟨_,Heap.get?_push_size _ rfl,rfl,rfl⟩ (by omega) fun h₁ tk us hit₁ hs₁ hv=>?_))
  have hv':cF (eZ x) us:=by
   have e:((eZ x).drop 0).take x.length=eZ x:=by
    rw[List.drop_zero];exact List.take_of_length_le (by rw[fQ];exact Nat.le_refl _)
   rw[e]at hv
   exact hv
  have hl:us.length=x.length:=by rw[← hv'.length,fQ]
  rw[if_neg (by omega)]
  have hend:x.cps[x.length]? = none:=by simp[Str.length]
  rw[Nat.zero_add]at hit₁
  have fin:∀ h₂,Heap.ExtBut s.heap.objs.size h₁ h₂->wpAny (model prog w) A (do
    if(none:Option Value).isSome then
     rule "unpack.too-many";raiseError "ValueError" s!"too many values to unpack (expected {x.length})"
    return us:Sem (List Value)) (fun us s'=>wpAny (model prog w) A (assignInOrder (targets.map (·.2)) us) Q E s') E {s with heap:=h₂,toks:=tk}:=by
   intro h₂ he₂
   simp only[Option.isSome_none,Bool.false_eq_true,if_false]
   exact wpAny_pure (h h₂ tk us (fun b o hb e=>he₂ b o hb (hs₁.extBut b o hb (Heap.get?_push_of_some _ e))) hv')
  rcases hty with rfl | rfl
  ·exact wpAny_bind (wpAny_holding (wpAny_pyNext_ascii_end hh hit₁ hend fun h₂ he₂=>fin h₂ he₂))
  ·exact wpAny_bind (wpAny_holding (wpAny_pyNext_wide_end hh hit₁ hend fun h₂ he₂=>fin h₂ he₂))
 cases ha:x.cps.all (· < 128)with
 | true=>exact wpAny_bind (wpAny_holding (wpAny_pyIter_ascii ha (go _ (.inl rfl))))
 | false=>exact wpAny_bind (wpAny_holding (wpAny_pyIter_wide ha (go _ (.inr rfl))))
end
section
variable{X:Cx}{pos:Pos}
def aN6(K:PySem.W.Frag)(n:Nat)(t:TGs):TG:=fun v σ H Q=>match v with
 | .str z=>z.length=n/\t (eZ z) σ H Q
 | .ref a=>∃ xs,eP H a=some (false,xs)/\xs.length=n/\t xs σ H Q
 | _=>False
theorem cH5{es:List Expr}{k:Nat}{t:TGs}{n:Nat}(hc:X.calm=true)(h:PGs X es t)
  (hn:(assignEach es X.env).length=n:=by rfl) (hst:(assignEach es X.env).findIdx? (·.1)=none:=by rfl):PG X (.Tuple es k pos) (aN6 X.K n t):=by
 intro pins s σ H v u Q I r hw
 unfold aN6 at hw
 split at hw
 ·rename_i z
  obtain⟨hl,hw⟩:=hw
  obtain⟨tk,rfl⟩:=r
  rw[assign_Tuple]
  refine wpAny_bind (wpAny_standAt (vG (I.ok.hd hc) (hn.trans hl.symm) hst fun h' tk us hx hv=>?_))
  have I1:Inv X pins σ H {s with heap:=h',toks:=tk}:=I.kept fun b o e=>hx b o (Nat.ne_of_lt (Heap.lt_size e)) e
  exact h pins _ σ H _ _ Q I1 hv hw
 ·rename_i a
  obtain⟨xs,hq,hl,hw⟩:=hw
  exact cS1 (k:=k) (pos:=pos) hc h hn hst pins s σ H _ u Q I r ⟨a,xs,rfl,dS hq,hl,hw⟩
 ·exact hw.elim
end
section
variable{X:Cx}
def cB5:List V->Hp->VK->Prop:=fun xs H Q=>∃ p b ys,xs=[.ref p]/\eP H p=some (b,ys)/\∀ l,H l=none->Q (.ref l) (upd H l (.lst ys))
theorem kP:kW X (.type "list") cB5:=by
 intro pins s σ H xs us Q I r h
 obtain⟨p,b,ys,rfl,hq,q⟩:=h
 cases b with
 | true=>exact oQ pins s σ H _ us Q I r ⟨p,ys,rfl,.inl (eY hq),q⟩
 | false=>exact oQ pins s σ H _ us Q I r ⟨p,ys,rfl,.inr (dS hq),q⟩
def cH6:List V->Hp->VK->Prop:=fun xs H Q=>∃ p b ys,xs=[.ref p]/\eP H p=some (b,ys)/\if b=true then ∀ l,H l=none->Q (.ref l) (upd H l (.tup ys))else Q (.ref p) H
theorem mP:kW X (.type "tuple") cH6:=by
 intro pins s σ H xs us Q I r h
 obtain⟨p,b,ys,rfl,hq,q⟩:=h
 cases b with
 | true=>exact mH pins s σ H _ us Q I r ⟨p,ys,rfl,.inl ⟨eY hq,by simpa using q⟩⟩
 | false=>exact mH pins s σ H _ us Q I r ⟨p,ys,rfl,.inr ⟨dS hq,by simpa using q⟩⟩
def bS1:R2:=fun x y H Q=>match x,y with
 | .int i,.int j=>bP0 i j/\Q (.int (i*j)) H
 | .str z,.int i=>z.length<=1000/\0<=i/\i<=1000/\∀ y:Str,y.length<=z.length*i.toNat->y=PySem.Txt.mul z i->Q (.str y) H
 | _,_=>False
theorem cH7(z:Str)(i:Int)(h0:0<=i):(PySem.Txt.mul z i).length<=z.length*i.toNat:=by
 unfold PySem.Txt.mul
 by_cases h1:i < 1
 ·rw[if_pos h1];exact Nat.zero_le _
 ·rw[if_neg h1]
  by_cases h2:(i==1||z.length==0)=true
  ·rw[if_pos h2]
   have:1<=i.toNat:=by omega
   calc z.length=z.length*1:=by rw[Nat.mul_one]
    _<=z.length*i.toNat:=Nat.mul_le_mul_left _ this
  ·rw[if_neg h2]
   have key:∀ (k:Nat) (acc:Array Nat),((List.replicate k z.cps).foldl (· ++ ·) acc).size=acc.size+k*z.cps.size:=by
    intro k
    induction k with
    | zero=>intro acc;simp
    | succ k ih=>
      intro acc
      rw[List.replicate_succ,List.foldl_cons,ih,Array.size_append,Nat.succ_mul]
      omega
   show((List.replicate i.toNat z.cps).foldl (· ++ ·) #[]).size<=_
   rw[key]
   show 0+_<=_
   rw[Nat.zero_add,Nat.mul_comm]
   exact Nat.le_refl _
theorem aI6:OpR X (binaryOp .Mult) bS1:=by
 intro pins s σ H x y v u Q I rx ry h
 unfold bS1 at h
 split at h
 ·exact cS6 pins s σ H _ _ v u Q I rx ry ⟨_,_,rfl,rfl,h.1,h.2⟩
 ·rename_i z i
  obtain⟨h1,h2,h3,q⟩:=h
  obtain⟨t,rfl⟩:=rx
  obtain⟨t',rfl⟩:=ry
  have hle:z.length*i.toNat<=1000*1000:=Nat.mul_le_mul h1 (by omega)
  refine SB.mul ⟨?_,fun ha hb=>?_,fun ha hb=>?_⟩ fun t' k=>⟨.str _,H,I.tok k,⟨t',rfl⟩,q _ (cH7 z i h2) rfl⟩
  ·rw[decide_eq_false (by omega),decide_eq_false (by omega)];rfl
  ·have h4:(1000:Int)<=(2 ^ 63-1) / i:=by
    rw[Int.le_ediv_iff_mul_le (by omega)]
    omega
   omega
  ·unfold PySem.Builtin.Str.tooLong
   exact decide_eq_false (by rw[sizeLine_eq];omega)
 ·exact h.elim
def dJ3(neg:Bool):R2:=fun x y H Q=>match y with
 | .str j=>(match x with | .str i=>Q (.bl (if neg then(Builtin.Str.occurrences j i 0 j.length 1).isEmpty else !(Builtin.Str.occurrences j i 0 j.length 1).isEmpty)) H | _=>False)
 | .ref p=>∃ b xs,eP H p=some (b,xs)/\qX x=true/\xs.all qX=true/\Q (.bl (if neg then !inV x xs else inV x xs)) H
 | _=>False
theorem cV0:OpR X (compareOp .In) (dJ3 false):=by
 intro pins s σ H x y v u Q I rx ry h
 unfold dJ3 at h
 split at h
 ·split at h
  ·exact xH pins s σ H _ _ v u Q I rx ry ⟨_,_,rfl,rfl,by simpa using h⟩
  ·exact h.elim
 ·rename_i p
  obtain⟨b,xs,hq,f1,f2,q⟩:=h
  exact aT3 pins s σ H _ _ v u Q I rx ry ⟨p,xs,rfl,by cases b;exact .inr (dS hq);exact .inl (eY hq),f1,f2,q⟩
 ·exact h.elim
end
theorem cH8{c:TT}{tb:TS}{D:Ends}{σ:St}{H:Hp}(Pv:Nat->St->Hp->Prop)(m0:Nat)(h0:Pv m0 σ H)
  (step:∀ m σ H (N:St->Hp->Prop),Pv m σ H->(∀ σ' H' m',m' < m->Pv m' σ' H'->N σ' H')->c σ H fun b H1=>if b=true then ∃ M:St->Hp->Prop,(∀ σ' H',M σ' H'->N σ' H')/\tb {D with nx:=M,ct:=M,bk:=D.nx} σ H1 else D.nx σ H1):cA4 c tb D σ H:=by
 refine⟨Pv,⟨m0,h0⟩,fun m σ H p=>?_⟩
 exact step m σ H (fun σ' H'=>∃ m',m' < m/\Pv m' σ' H') p fun σ' H' m' hm q=>⟨m',hm,q⟩
section
variable{H:Hp}{Q:VK}{i j:Int}{p:Addr}{b:Bool}{xs:List V}
theorem qA(h:bP0 i j):bS1 (.int i) (.int j) H Q=Q (.int (i*j)) H:=propext ⟨fun q=>q.2,fun q=>⟨h,q⟩⟩
theorem qB(h:eP H p=some (b,xs)):cB5 [.ref p] H Q=∀ l,H l=none->Q (.ref l) (upd H l (.lst xs)):=
 propext ⟨fun⟨_,_,_,e,h',q⟩=>by cases e;rw[h]at h';cases h';exact q,fun q=>⟨p,b,xs,rfl,h,q⟩⟩
theorem cV1{n:Nat}{d:Int}(h0:0<=d)(h1:d < n):ixN n d=some d.toNat:=by unfold ixN;rw[if_pos h0,if_pos h1]
theorem tyL{K:PySem.W.Frag}(h:H p=some (.lst xs)):tyV K "list" (.ref p) H:=.inl ⟨rfl,_,SqL.of h⟩
end
end L2
namespace L2
theorem tJ{α:Type}:∀ (l:List α) (i:Nat) (h:i < l.length),(l[i]::l.eraseIdx i).Perm l
 | [],i,h=>absurd h (Nat.not_lt_zero _)
 | x::r,0,_=>by simpa using List.Perm.refl _
 | x::r,i+1,h=>by
   have ih:=tJ r i (by simpa using h)
   simp only[List.getElem_cons_succ,List.eraseIdx_cons_succ]
   exact(List.Perm.swap x _ _).trans (ih.cons x)
end L2
namespace L2
open PySem
theorem bS2{x:Str}{j:Int}(h0:0<=j)(h1:j<=x.length):(PySem.Txt.slice x none (some j)).cps.toList=x.cps.toList.take j.toNat:=by
 have e:=PySem.StrLaws.sliceText_to (x:=x) (j:=j) ⟨h0,by simpa[Str.length]using h1⟩
 have e':PySem.Txt.slice x none (some j)=_:=e
 rw[e']
 simp
theorem aN7{x:Str}{i:Int}(h0:0<=i)(h1:i<=x.length):(PySem.Txt.slice x (some i) none).cps.toList=x.cps.toList.drop i.toNat:=by
 have h1':i<=x.cps.toList.length:=by simpa[Str.length]using h1
 have e:=PySem.StrLaws.sliceText_from (x:=x) (i:=i) ⟨h0,h1'⟩
 have e':PySem.Txt.slice x (some i) none=_:=e
 rw[e']
 show(x.cps.toList.drop i.toNat).take _=_
 exact List.take_of_length_le (by rw[List.length_drop];omega)
theorem iS(x:Str):x.length=x.cps.toList.length:=by simp[Str.length]
theorem iT{xs:List V}{m:Int}(h0:0<=m):pU xs none (some m)=xs.take m.toNat:=by
 unfold pU
 obtain⟨n,rfl⟩:=Int.eq_ofNat_of_zero_le h0
 rw[HT.sIx_none,HT.sIx_nat,List.drop_zero,Nat.sub_zero]
 rw[Int.toNat_natCast]
 by_cases h:n<=xs.length
 ·rw[Nat.min_eq_left h]
 ·rw[Nat.min_eq_right (by omega),List.take_of_length_le (Nat.le_refl _),List.take_of_length_le (by omega)]
theorem xS(zs:List Str):(zs.map V.str).all qX=true:=by
 rw[List.all_map,List.all_eq_true]
 intro z _
 rfl
end L2
namespace L2
open PySem PySem.Spec PyProof.Rows
inductive Dt where
 | non | int (i:Int) | str (x:Str) | tup (l:List Dt)
noncomputable instance:DecidableEq Dt:=fun _ _=>Classical.propDecidable _
mutual
inductive Rep(H:Hp):Dt->V->Prop
 | non:Rep H .non .non
 | int (i:Int):Rep H (.int i) (.int i)
 | str (x:Str):Rep H (.str x) (.str x)
 | tup {l:List Dt} {p:Addr} {xs:List V}:H p=some (.tup xs)->Reps H l xs->Rep H (.tup l) (.ref p)
inductive Reps(H:Hp):List Dt->List V->Prop
 | nil:Reps H [] []
 | cons {d:Dt} {r:List Dt} {x:V} {xs:List V}:Rep H d x->Reps H r xs->Reps H (d::r) (x::xs)
end
def eD(H H':Hp):Prop:=∀ p xs,H p=some (.tup xs)->H' p=some (.tup xs)
theorem eD.refl(H:Hp):eD H H:=fun _ _ h=>h
theorem eD.trans{H H1 H2:Hp}(a:eD H H1)(b:eD H1 H2):eD H H2:=fun p xs h=>b p xs (a p xs h)
theorem eD.upd{H:Hp}{p:Addr}{o:HO}(h:∀ xs,H p≠some (.tup xs)):eD H (L2.upd H p o):=fun q xs e=>by
 have:q≠p:=fun z=>h xs (by rw[← z];exact e)
 rw[aF this];exact e
mutual
theorem Rep.inj{H:Hp}:∀ {d e:Dt} {x:V},Rep H d x->Rep H e x->d=e
 | _,_,_,.non,h=>by cases h;rfl
 | _,_,_,.int i,h=>by cases h;rfl
 | _,_,_,.str x,h=>by cases h;rfl
 | _,_,_,.tup h r,h'=>by
   cases h' with
   | tup h2 r2=>
     rw[h]at h2
     cases h2
     rw[Reps.inj r r2]
theorem Reps.inj{H:Hp}:∀ {l m:List Dt} {xs:List V},Reps H l xs->Reps H m xs->l=m
 | _,_,_,.nil,h=>by cases h;rfl
 | _,_,_,.cons a r,h=>by
   cases h with
   | cons a2 r2=>rw[Rep.inj a a2,Reps.inj r r2]
end
theorem Reps.length{H:Hp}:∀ {l:List Dt} {xs:List V},Reps H l xs->l.length=xs.length
 | _,_,.nil=>rfl
 | _,_,.cons _ r=>by simp[Reps.length r]
theorem Reps.get{H:Hp}:∀ {l:List Dt} {xs:List V} {i:Nat} {d:Dt},Reps H l xs->l[i]? = some d->∃ x,xs[i]? = some x/\Rep H d x
 | _,_,_,_,.nil,h=>by simp at h
 | _,_,0,_,.cons a r,h=>by simp at h;subst h;exact⟨_,rfl,a⟩
 | _,_,i+1,_,.cons a r,h=>by
   obtain⟨x,e,q⟩:=Reps.get (i:=i) r (by simpa using h)
   exact⟨x,by simpa using e,q⟩
mutual
def Dt.dep:Dt->Nat
 | .tup l=>Dt.deps l+1
 | _=>0
def Dt.deps:List Dt->Nat
 | []=>0
 | d::r=>max d.dep (Dt.deps r)
end
theorem vH:∀ {l:List Dt} {i:Nat} {d:Dt},l[i]? = some d->d.dep<=Dt.deps l
 | [],_,_,h=>by simp at h
 | e::r,0,d,h=>by
   simp at h;subst h
   unfold Dt.deps
   exact Nat.le_max_left _ _
 | e::r,i+1,d,h=>by
   have:=vH (l:=r) (i:=i) (d:=d) (by simpa using h)
   unfold Dt.deps
   exact Nat.le_trans this (Nat.le_max_right _ _)
theorem iU(l m:List Dt):((List.range (min l.length m.length)).all (fun j=>decide (l[j]? = m[j]?))&&l.length==m.length)=decide (l=m):=by
 rw[Bool.eq_iff_iff,Bool.and_eq_true,List.all_eq_true,decide_eq_true_eq,beq_iff_eq]
 constructor
 ·rintro⟨h1,h2⟩
  apply List.ext_getElem?
  intro j
  by_cases hj:j < l.length
  ·have:=h1 j (List.mem_range.mpr (by omega))
   exact of_decide_eq_true this
  ·rw[List.getElem?_eq_none_iff.mpr (by omega),List.getElem?_eq_none_iff.mpr (by omega)]
 ·rintro rfl
  exact⟨fun j _=>decide_eq_true rfl,rfl⟩
section
variable{X:Cx}{pins:List (Addr×Obj)}{σ:St}{H:Hp}{s:Shared}
theorem bS3(I:Inv X pins σ H s):∀ (n:Nat) {A:Around} {d1 d2:Dt} {x y:V} {u v:Value},A.units+n < cLine->d1.dep<=n->Rep H d1 x->Rep H d2 y->eG x u->eG y v->SeqAt.EqAt A s u v (decide (d1=d2)):=by
 intro n
 induction n with
 | zero=>
   intro A d1 d2 x y u v hu hd r1 r2 ru rv
   have hu':A.units < cLine:=by omega
   cases r1 with
   | non=>
     cases ru
     cases r2 with
     | non=>cases rv;rw[decide_eq_true rfl];exact SeqAt.EqAt.same _
     | int i=>obtain⟨t,rfl⟩:=rv;rw[decide_eq_false (fun z=>nomatch z)];exact SeqAt.EqAt.none_int _ _
     | str i=>obtain⟨t,rfl⟩:=rv;rw[decide_eq_false (fun z=>nomatch z)];exact SeqAt.EqAt.none_str _ _
     | tup h r=>
       cases rv;rw[decide_eq_false (fun z=>nomatch z)]
       obtain⟨its,_,ht,_⟩:=I.tuple (SqT.of h)
       exact SeqAt.EqAt.none_tuple ht hu'
   | int i=>
     obtain⟨t,rfl⟩:=ru
     cases r2 with
     | non=>cases rv;rw[decide_eq_false (fun z=>nomatch z)];exact SeqAt.EqAt.int_none _ _
     | int j=>
       obtain⟨t',rfl⟩:=rv
       have e:decide (Dt.int i=Dt.int j)=(i==j):=by
        rw[Bool.eq_iff_iff,decide_eq_true_eq,beq_iff_eq]
        exact⟨fun z=>by cases z;rfl,fun z=>by rw[z]⟩
       rw[e];exact SeqAt.EqAt.int_int _ _ _ _
     | str j=>obtain⟨t',rfl⟩:=rv;rw[decide_eq_false (fun z=>nomatch z)];exact SeqAt.EqAt.int_str _ _ _ _
     | tup h r=>
       cases rv;rw[decide_eq_false (fun z=>nomatch z)]
       obtain⟨its,_,ht,_⟩:=I.tuple (SqT.of h)
       exact SeqAt.EqAt.int_tuple _ _ ht hu'
   | str i=>
     obtain⟨t,rfl⟩:=ru
     cases r2 with
     | non=>cases rv;rw[decide_eq_false (fun z=>nomatch z)];exact SeqAt.EqAt.str_none _ _
     | int j=>obtain⟨t',rfl⟩:=rv;rw[decide_eq_false (fun z=>nomatch z)];exact SeqAt.EqAt.str_int _ _ _ _
     | str j=>
       obtain⟨t',rfl⟩:=rv
       have e:decide (Dt.str i=Dt.str j)=(i==j):=by
        rw[Bool.eq_iff_iff,decide_eq_true_eq,beq_iff_eq]
        exact⟨fun z=>by cases z;rfl,fun z=>by rw[z]⟩
       rw[e];exact SeqAt.EqAt.str_str _ _ _ _
     | tup h r=>
       cases rv;rw[decide_eq_false (fun z=>nomatch z)]
       obtain⟨its,_,ht,_⟩:=I.tuple (SqT.of h)
       exact SeqAt.EqAt.str_tuple _ _ ht hu'
   | tup h r=>unfold Dt.dep at hd;omega
 | succ n ih=>
   intro A d1 d2 x y u v hu hd r1 r2 ru rv
   have hu':A.units < cLine:=by omega
   cases r1 with
   | non=>exact ih (by omega) (Nat.zero_le _) .non r2 ru rv
   | int i=>exact ih (by omega) (Nat.zero_le _) (.int i) r2 ru rv
   | str i=>exact ih (by omega) (Nat.zero_le _) (.str i) r2 ru rv
   | @tup l p xs h r=>
     cases ru
     obtain⟨its,vr,ht,_⟩:=I.tuple (SqT.of h)
     cases r2 with
     | non=>cases rv;rw[decide_eq_false (fun z=>nomatch z)];exact SeqAt.EqAt.tuple_none ht hu'
     | int j=>obtain⟨t',rfl⟩:=rv;rw[decide_eq_false (fun z=>nomatch z)];exact SeqAt.EqAt.tuple_int _ _ ht hu'
     | str j=>obtain⟨t',rfl⟩:=rv;rw[decide_eq_false (fun z=>nomatch z)];exact SeqAt.EqAt.tuple_str _ _ ht hu'
     | @tup m q ys h2 r2=>
       cases rv
       obtain⟨its2,vr2,ht2,_⟩:=I.tuple (SqT.of h2)
       by_cases hpq:p=q
       ·subst hpq
        rw[h]at h2;cases h2
        rw[Reps.inj r r2,decide_eq_true rfl]
        exact SeqAt.EqAt.same _
       ·have hdl:Dt.deps l<=n:=by unfold Dt.dep at hd;omega
        have e1:its.length=l.length:=by rw[← vr.length,r.length]
        have e2:its2.length=m.length:=by rw[← vr2.length,r2.length]
        have key:=SeqAt.RcAt.tuples (A:=A) (e:=fun j=>decide (l[j]? = m[j]?)) ht ht2 hu' fun j h1 h2'=>by
         have hj1:j < its.length:=by simpa using h1
         have hj2:j < its2.length:=by simpa using h2'
         have hl:l[j]? = some l[j]:=List.getElem?_eq_getElem (by omega)
         have hm:m[j]? = some m[j]:=List.getElem?_eq_getElem (by omega)
         obtain⟨x',ex,rx⟩:=r.get hl
         obtain⟨y',ey,ry⟩:=r2.get hm
         obtain⟨u',eu,ru'⟩:=vr.get ex
         obtain⟨v',ev,rv'⟩:=vr2.get ey
         have:=ih (A:=A.in1) (by show A.units+1+n < cLine;omega) (Nat.le_trans (vH hl) hdl) rx ry ru' rv'
         have g1:its.toArray[j]=u':=by
          rw[List.getElem?_eq_getElem hj1]at eu
          simpa using eu
         have g2:its2.toArray[j]=v':=by
          rw[List.getElem?_eq_getElem hj2]at ev
          simpa using ev
         rw[g1,g2]
         have e3:decide (l[j]? = m[j]?)=decide (l[j]=m[j]):=by rw[hl,hm];simp
         rw[e3]
         exact this
        have e4:((List.range (min its.toArray.size its2.toArray.size)).all (fun j=>decide (l[j]? = m[j]?))&&its.toArray.size==its2.toArray.size)=decide (Dt.tup l=Dt.tup m):=by
         rw[List.size_toArray,List.size_toArray,e1,e2,iU]
         rw[Bool.eq_iff_iff,decide_eq_true_eq,decide_eq_true_eq]
         exact⟨fun z=>by rw[z],fun z=>by cases z;rfl⟩
        rw[e4]at key
        exact SeqAt.EqAt.of_refs hpq key
end
end L2
namespace L2
open PySem PySem.Spec PyProof.Rows
section
variable{X:Cx}{pins:List (Addr×Obj)}{σ:St}{H:Hp}{s:Shared}
theorem mQ(I:Inv X pins σ H s){A:Around}{l m:List Dt}{xs ys:List V}{its its2:List Value}(hu:A.units+64 < cLine)(hd:Dt.deps l<=60)(r1:Reps H l xs)(r2:Reps H m ys)(v1:cF xs its)(v2:cF ys its2) :
  ∀ j (h1:j < its.toArray.size) (h2:j < its2.toArray.size),SeqAt.EqAt A.in1 s its.toArray[j] its2.toArray[j] (decide (l[j]? = m[j]?)):=by
 intro j h1 h2
 have e1:its.length=l.length:=by rw[← v1.length,r1.length]
 have e2:its2.length=m.length:=by rw[← v2.length,r2.length]
 have hj1:j < its.length:=by simpa using h1
 have hj2:j < its2.length:=by simpa using h2
 have hl:l[j]? = some l[j]:=List.getElem?_eq_getElem (by omega)
 have hm:m[j]? = some m[j]:=List.getElem?_eq_getElem (by omega)
 obtain⟨x',ex,rx⟩:=r1.get hl
 obtain⟨y',ey,ry⟩:=r2.get hm
 obtain⟨u',eu,ru'⟩:=v1.get ex
 obtain⟨v',ev,rv'⟩:=v2.get ey
 have key:=bS3 I 60 (A:=A.in1) (by show A.units+1+60 < cLine;omega) (Nat.le_trans (vH hl) hd) rx ry ru' rv'
 have g1:its.toArray[j]=u':=by
  rw[List.getElem?_eq_getElem hj1]at eu
  simpa using eu
 have g2:its2.toArray[j]=v':=by
  rw[List.getElem?_eq_getElem hj2]at ev
  simpa using ev
 rw[g1,g2]
 have e3:decide (l[j]? = m[j]?)=decide (l[j]=m[j]):=by rw[hl,hm];simp
 rw[e3]
 exact key
def cP5(neg:Bool):R2:=fun x y H Q=>match x,y with
 | .ref p,.ref q=>∃ b xs ys l m,eP H p=some (b,xs)/\eP H q=some (b,ys)/\Reps H l xs/\Reps H m ys/\Dt.deps l<=60/\Q (.bl (if neg then !decide (l=m)else decide (l=m))) H
 | _,_=>cF6 x y=true/\Q (.bl (if neg then !decide (x=y)else decide (x=y))) H
theorem aI7{l m:List Dt}(h:l.length=m.length):(List.range l.length).all (fun j=>decide (l[j]? = m[j]?))=decide (l=m):=by
 have:=iU l m
 rw[h,Nat.min_self]at this
 rw[h,← this]
 simp
theorem mR(hu:X.A.units+64 < cLine):OpR X (compareOp .Eq) (cP5 false):=by
 intro pins s σ H x y v u Q I rx ry h
 unfold cP5 at h
 split at h
 ·rename_i p q
  obtain⟨b,xs,ys,l,m,hp,hq,r1,r2,hd,q⟩:=h
  cases rx
  cases ry
  have q':Q (.bl (decide (l=m))) H:=by simpa using q
  cases b with
  | true=>
    obtain⟨its,v1,p1,_⟩:=I.list (eY hp)
    obtain⟨its2,v2,p2,_⟩:=I.list (eY hq)
    have e1:its.length=l.length:=by rw[← v1.length,r1.length]
    have e2:its2.length=m.length:=by rw[← v2.length,r2.length]
    by_cases hs:l.length=m.length
    ·refine SeqAt.eq_listAt p1.isList p2.isList (by simp only[List.size_toArray];omega) (by omega) (mQ I hu hd r1 r2 v1 v2) (bI I q' ?_)
     rw[List.size_toArray,e1,aI7 hs]
    ·refine SeqAt.eq_list_lengthsAt p1.isList p2.isList (by simp only[List.size_toArray,bne_iff_ne];omega) (by omega) (bI I q' ?_)
     exact decide_eq_false fun z=>hs (by rw[z])
  | false=>
    obtain⟨its,v1,p1,_⟩:=I.tuple (dS hp)
    obtain⟨its2,v2,p2,_⟩:=I.tuple (dS hq)
    have e1:its.length=l.length:=by rw[← v1.length,r1.length]
    have e2:its2.length=m.length:=by rw[← v2.length,r2.length]
    refine SeqAt.eq_tupleAt p1 p2 (by omega) (mQ I hu hd r1 r2 v1 v2) (bI I q' ?_)
    rw[List.size_toArray,List.size_toArray,e1,e2,iU]
 ·exact dE8 pins s σ H _ _ v u Q I rx ry ⟨h.1,by simpa using h.2⟩
theorem cV2(hu:X.A.units+64 < cLine):OpR X (compareOp .NotEq) (cP5 true):=by
 intro pins s σ H x y v u Q I rx ry h
 unfold cP5 at h
 split at h
 ·rename_i p q
  obtain⟨b,xs,ys,l,m,hp,hq,r1,r2,hd,q⟩:=h
  cases rx
  cases ry
  have q':Q (.bl (!decide (l=m))) H:=by simpa using q
  cases b with
  | true=>
    obtain⟨its,v1,p1,_⟩:=I.list (eY hp)
    obtain⟨its2,v2,p2,_⟩:=I.list (eY hq)
    have e1:its.length=l.length:=by rw[← v1.length,r1.length]
    have e2:its2.length=m.length:=by rw[← v2.length,r2.length]
    by_cases hs:l.length=m.length
    ·refine SeqAt.RcNeAt.lists p1.isList p2.isList (by simp only[List.size_toArray];omega) (by omega) (mQ I hu hd r1 r2 v1 v2) _ _ _ _ (bI I q' ?_)
     rw[List.size_toArray,e1,aI7 hs]
    ·refine SeqAt.RcNeAt.lists_lengths p1.isList p2.isList (by simp only[List.size_toArray,bne_iff_ne];omega) (by omega) _ _ _ _ (bI I q' ?_)
     rw[decide_eq_false fun z=>hs (by rw[z])];rfl
  | false=>
    obtain⟨its,v1,p1,_⟩:=I.tuple (dS hp)
    obtain⟨its2,v2,p2,_⟩:=I.tuple (dS hq)
    have e1:its.length=l.length:=by rw[← v1.length,r1.length]
    have e2:its2.length=m.length:=by rw[← v2.length,r2.length]
    refine SeqAt.RcNeAt.tuples p1 p2 (by omega) (mQ I hu hd r1 r2 v1 v2) _ _ _ _ (bI I q' ?_)
    rw[List.size_toArray,List.size_toArray,e1,e2,iU]
 ·exact dE9 pins s σ H _ _ v u Q I rx ry ⟨h.1,by simpa using h.2⟩
theorem vI{i j:Int}{Q:VK}:cP5 false (.int i) (.int j) H Q=Q (.bl (decide (i=j))) H:=by
 show(cF6 _ _=true/\_)=_;rw[show cF6 (.int i) (.int j)=true from rfl,← bR8];simp
theorem vJ{i j:Str}{Q:VK}:cP5 true (.str i) (.str j) H Q=Q (.bl (!decide (i=j))) H:=by
 show(cF6 _ _=true/\_)=_;rw[show cF6 (.str i) (.str j)=true from rfl,← bR9];simp
end
section
variable{X:Cx}
theorem cH9{prog:Program}{w:World}{A:Around}{E:Value->Shared->Prop}{s:Shared}{t b:Addr}{ws:List Value}{Q:Value->Shared->Prop}(ht:IsTup s.heap t ([]:List Value).toArray)(hb:IsTup s.heap b ws.toArray)
  (h1:Q (.ref b) s):wpAny (model prog w) A (binaryOp .Add (.ref t) (.ref b)) Q E s:=by
 obtain⟨⟨cls,dd,data,sl⟩,ho,hc,n,hd⟩:=id ht
 obtain⟨⟨cls2,dd2,data2,sl2⟩,ho2,hc2,n2,hd2⟩:=id hb
 simp only at hc hd hc2 hd2
 subst hc hd hc2 hd2
 exact concat_meets ⟨_,ho,rfl⟩ ⟨_,ho2,rfl⟩ noFill_tuple_add seq_tuple_add PySem.F.slot_tuple_add PySem.F.entry_tuple_add (PySem.F.args_tuple_add_2 _ _)
   (tuple_addW0 t b ([]:List Value).toArray ws.toArray n n2 dd dd2 sl sl2 (by simp)) ⟨ho,ho2,h1⟩
def bS4:R2:=fun x y H Q=>match x,y with
 | .int i,.int j=>Q (.int (i+j)) H
 | .str a,.str b=>a.length+b.length<=sizeLine/\Q (.str (a++b)) H
 | .ref p,.ref q=>(∃ xs ys,H p=some (.lst xs)/\H q=some (.lst ys)/\xs.length+ys.length<=sizeLine/\∀ r,H r=none->Q (.ref r) (upd H r (.lst (xs++ys)))) \/
   ∃ xs ys,eP H p=some (false,xs)/\eP H q=some (false,ys)/\xs.length+ys.length<=sizeLine/\(xs=[]->Q (.ref q) H)/\(xs≠[]->ys=[]->Q (.ref p) H)/\(xs≠[]->ys≠[]->∀ r,H r=none->Q (.ref r) (upd H r (.tup (xs++ys))))
 | _,_=>False
theorem gZ:OpR X (binaryOp .Add) bS4:=by
 intro pins s σ H x y v u Q I rx ry h
 unfold bS4 at h
 split at h
 ·exact cS4 pins s σ H _ _ v u Q I rx ry ⟨_,_,rfl,rfl,h⟩
 ·exact aM3 pins s σ H _ _ v u Q I rx ry ⟨_,_,rfl,rfl,h.1,h.2⟩
 ·rename_i p q
  rcases h with⟨xs,ys,h1,h2,h3,q⟩ | ⟨xs,ys,h1,h2,h3,q1,q2,q3⟩
  ·exact cU2 pins s σ H _ _ v u Q I rx ry ⟨_,_,xs,ys,rfl,rfl,h1,h2,h3,q⟩
  ·by_cases hx:xs=[]
   ·cases rx
    cases ry
    obtain⟨its,r1,p1,_⟩:=I.tuple (dS h1)
    obtain⟨its2,r2,p2,_⟩:=I.tuple (dS h2)
    have e:its=[]:=r1.nil_iff.mpr hx
    subst e
    exact cH9 p1 p2 ⟨.ref q,H,I,rfl,q1 hx⟩
   ·exact cG1 pins s σ H _ _ v u Q I rx ry ⟨p,q,xs,ys,rfl,rfl,dS h1,dS h2,hx,h3,q2 hx,q3 hx⟩
 ·exact h.elim
theorem qC{i j:Int}{H:Hp}{Q:VK}:bS4 (.int i) (.int j) H Q=Q (.int (i+j)) H:=rfl
def cI0(neg:Bool):R2:=fun x y H Q=>match y with
 | .non=>Q (.bl (if neg then !decide (x=.non)else decide (x=.non))) H
 | .bl b=>(match x with | .bl a=>Q (.bl (if neg then !decide (a=b)else decide (a=b))) H | _=>False)
 | _=>False
end
end L2
namespace L2
open PySem PySem.Spec PyProof.Rows
section
variable{X:Cx}
theorem aU0:OpR X (compareOp .Is) (cI0 false):=by
 intro pins s σ H x y v u Q I rx ry h
 unfold cI0 at h
 split at h
 ·exact cS8 pins s σ H _ _ v u Q I rx ry ⟨rfl,by simpa using h⟩
 ·split at h
  ·rename_i b a
   cases rx
   cases ry
   exact is_bool (bI I h (by cases a<;>cases b<;>rfl))
  ·exact h.elim
 ·exact h.elim
theorem vK{a b:Bool}{H:Hp}{Q:VK}:cI0 false (.bl a) (.bl b) H Q=Q (.bl (decide (a=b))) H:=rfl
theorem qE{a b:Bool}{H:Hp}{Q:VK}:cI0 true (.bl a) (.bl b) H Q=Q (.bl (!decide (a=b))) H:=rfl
theorem vL{x:V}{H:Hp}{Q:VK}:cI0 false x .non H Q=Q (.bl (decide (x=.non))) H:=rfl
theorem qF{x:V}{H:Hp}{Q:VK}:cI0 true x .non H Q=Q (.bl (!decide (x=.non))) H:=rfl
def cI1:V->List V->Hp->VK->Prop:=fun x vs H Q=>∃ (l:Addr) (zs:List Str) (z:Str),x=.ref l/\vs=[.str z]/\H l=some (.lst (zs.map V.str))/\z∈zs/\∀ j,zs[j]? = some z->Q .non (upd H l (.lst ((zs.eraseIdx j).map V.str)))
theorem zR:∀ {zs:List Str} {us:List Value},cF (zs.map V.str) us->∀ u∈us,∃ z t,u=.str z t
 | [],_,.nil=>fun u hu=>nomatch hu
 | z::r,_,.cons h1 h2=>fun u hu=>by
   rcases List.mem_cons.mp hu with e | e
   ·obtain⟨t,q⟩:=h1
    exact⟨z,t,e.trans q⟩
   ·exact zR h2 u e
def isZ(z:Str):Value->Bool
 | .str y _=>y==z
 | _=>false
theorem xT{α β:Type}(f:α->β):∀ (l:List α) (i:Nat),(l.map f).eraseIdx i=(l.eraseIdx i).map f
 | [],i=>by simp
 | x::r,0=>by simp
 | x::r,i+1=>by simp[xT f r i]
theorem aU1:MtM X "list.remove" cI1:=by
 intro pins s σ H x vs v us Q I rx rv h
 obtain⟨l,zs,z,rfl,rfl,hH,hz,q⟩:=h
 cases rx
 obtain⟨u,rfl,ru⟩:=rv.one
 obtain⟨t,rfl⟩:=ru
 obtain⟨hsz,its,n,r,hl,e⟩:=I.lstM hH
 have hlt:zs.idxOf z < zs.length:=List.idxOf_lt_length_of_mem hz
 have hlen:its.length=zs.length:=by rw[← hl,List.length_map]
 have at_:∀ (i:Nat) (hi:i < its.toArray.size) (hi':i < zs.length),isZ z its.toArray[i]=(zs[i]==z):=fun i hi hi'=>by
  obtain⟨w,hw,rw'⟩:=r.get (i:=i) (x:=V.str zs[i]) (by rw[List.getElem?_map,List.getElem?_eq_getElem hi'];rfl)
  obtain⟨t',rfl⟩:=rw'
  have:its.toArray[i]=Value.str zs[i] t':=by
   have h2:its[i]? = some its[i]:=List.getElem?_eq_getElem (by simpa using hi)
   rw[h2]at hw
   simpa using hw
  rw[this];rfl
 refine call_meets F.slot_list_remove ⟨_,e,rfl⟩ F.entry_list_remove (F.args_list_remove_2 _ _)
  (MeetsSeq.list_remove l its.toArray n (.str z t) (isZ z) (fun y hy=>?_) (zs.idxOf z) (by simp only[List.size_toArray];omega) ?_ (fun m hm hlt'=>?_) (by simp only[List.size_toArray];rw[← hl];exact hsz)) ⟨e,?_⟩
 ·obtain⟨y',t',rfl⟩:=zR r y (by simpa using hy)
  exact eqGives_str y' z t' t
 ·rw[at_ _ _ hlt]
  simp
 ·have hm':m < zs.length:=by simp only[List.size_toArray]at hm;omega
  rw[at_ m hm hm']
  have:=List.not_of_lt_findIdx (p:=(· == z)) (xs:=zs) (i:=m) hlt'
  exact this
 ·refine⟨.non,_,I.lset (its':=its.eraseIdx (zs.idxOf z)) hH e ?_ ?_ ?_,rfl,q (zs.idxOf z) ?_⟩
  ·show its.toArray.eraseIdxIfInBounds _=(its.eraseIdx _).toArray
   rw[List.eraseIdxIfInBounds_toArray]
  ·have:=r.eraseIdx (zs.idxOf z)
   rwa[xT]at this
  ·have:=mI zs (zs.idxOf z)
   rw[List.length_map]
   rw[List.length_map]at hsz
   omega
  ·rw[List.getElem?_eq_getElem hlt]
   simp
end
end L2
namespace L2
open PySem PySem.Spec PyProof.Rows
section
variable{prog:Program}{w:World}{A:Around}{E:Value->Shared->Prop}{s:Shared}
theorem bS5{a:Addr}{o:Obj}{Q:Option Obj->Shared->Prop}(ho:s.heap.get? a=some o)(h:Q (some o) s):wpAny (model prog w) A (loadIfAlive a) Q E s:=fun Γ p _=>by
 unfold loadIfAlive
 rw[Sem.wp_loadIfAlive,ho]
 simpa using h
def aN8(h:Heap)(z TI TO T:Addr)(b:Bool):Prop:=h.get? z=some {cls:=.type "zip",dict:=none,data:=.fields #[rawInt T,.bool b,.bool false,.ref TI,.ref TO],slots:=#[]}
theorem aN8.heap{h:Heap}{z TI TO T:Addr}{b:Bool}(hz:aN8 h z TI TO T b):h.get? z=some {cls:=.type "zip",dict:=none,data:=.fields #[rawInt T,.bool b,.bool false,.ref TI,.ref TO],slots:=#[]}:=hz
theorem xU{z TI TO T:Addr}{b:Bool}{o:Obj}{Q:Bool->Shared->Prop}(hz:aN8 s.heap z TI TO T b)(hT:s.heap.get? T=some o)
  (h:∀ h',aN8 h' z TI TO T true->Heap.SameBut z s.heap h'->Q false {s with heap:=h'}):wpAny (model prog w) A (Builtin.SmallTypes.ownedTupleIsFree (.ref z)) Q E s:=by
 unfold Builtin.SmallTypes.ownedTupleIsFree
 refine wpAny_bind (wpAny_field hz.heap rfl (x:=rawInt T) rfl ?_)
 show wpAny _ _ (loadIfAlive (T:Int).toNat >>= _) _ _ _
 refine wpAny_bind (bS5 (a:=(T:Int).toNat) (by rw[Int.toNat_natCast];exact hT) ?_)
 show wpAny _ _ (if(some o).isNone=true then _ else _) _ _ _
 rw[if_neg (by simp)]
 try (refine wpAny_bind (wpAny_pure ?_))
 show wpAny _ _ (field (.ref z) 1 >>= _) _ _ _
 refine wpAny_bind (wpAny_field hz.heap rfl (x:=.bool b) rfl ?_)
 cases b with
 | true=>
   rw[if_neg (by decide)]
   try (refine wpAny_bind (wpAny_pure ?_))
   exact wpAny_pure (h s.heap hz (Heap.SameBut.refl _ _))
 | false=>
   rw[if_pos (by decide)]
   refine wpAny_bind (wpAny_setField_rec hz.heap (by simp) fun h' hz' hs'=>?_)
   exact wpAny_pure (h h' hz' hs')
theorem aU2{z TI TO i1 i2 l1 l2 T:Addr}{bb:Bool}{o:Obj}{k1 k2:Nat}{xs ys:Array Value}{x y:Value}{Q:Value->Shared->Prop}(D:ZipApart z TI TO i1 i2 l1 l2)
  (hz:aN8 s.heap z TI TO T bb) (hT:s.heap.get? T=some o) (hTI:IsPair s.heap TI (.ref i1) (.ref i2))
  (h1:s.heap.IsListIter i1 l1 k1) (h2:s.heap.IsListIter i2 l2 k2) (hl1:s.heap.IsList l1 xs) (hl2:s.heap.IsList l2 ys) (hx:xs[k1]? = some x) (hy:ys[k2]? = some y)
  (hQ:∀ h',aN8 h' z TI TO T true->h'.IsListIter i1 l1 (k1+1)->h'.IsListIter i2 l2 (k2+1)->IsPair h' s.heap.objs.size x y->h'.objs.size=s.heap.objs.size+1 ->
   (∀ c o,c≠z->c≠i1->c≠i2->s.heap.get? c=some o->h'.get? c=some o)->Q (.ref s.heap.objs.size) {s with heap:=h'}) :
  wpAny (model prog w) A (Builtin.«zip.__next__» ⟨[.ref z],[]⟩) (fun fin s'=>∃ v,fin=.done (.ret v)/\Q v s') E s:=by
 (show wpAny _ _ (field (.ref z) 2 >>= _) _ _ _;refine wpAny_bind (wpAny_field hz.heap rfl (x:=.bool false) rfl ?_))
 (show wpAny _ _ (field (.ref z) 3 >>= _) _ _ _;refine wpAny_bind (wpAny_field hz.heap rfl (x:=.ref TI) rfl ?_))
 refine wpAny_bind (wpAny_seqItems hTI rfl ?_)
 (show wpAny _ _ (Builtin.SmallTypes.ownedTupleIsFree (.ref z) >>= _) _ _ _;refine wpAny_bind (xU hz hT fun h₁ hz₁ hs₁=>?_))
 rw[if_neg (by decide)]
 try (refine wpAny_bind (wpAny_pure ?_))
 refine wpAny_bind ?_
 simp only[List.forIn_toArray,List.forIn_cons,List.forIn_nil]
 refine wpAny_bind (wpAny_bind (wpAny_holding ?_))
 (show wpAny _ _ (Builtin.SmallTypes.nextOf (.ref i1) >>= _) _ _ _;refine wpAny_bind (wpAny_nextOf_list_item (h1.extBut hs₁.extBut D.i1z) (hl1.extBut hs₁.extBut D.l1z) hx fun h₂ h1₂ hs₂=>wpAny_pure (wpAny_pure ?_)))
 refine wpAny_bind (wpAny_bind (wpAny_holding ?_))
 (show wpAny _ _ (Builtin.SmallTypes.nextOf (.ref i2) >>= _) _ _ _;refine wpAny_bind (wpAny_nextOf_list_item ((h2.extBut hs₁.extBut D.i2z).extBut hs₂.extBut D.i12.symm) ((hl2.extBut hs₁.extBut D.l2z).extBut hs₂.extBut D.l2i1) hy fun h₃ h2₃ hs₃=>wpAny_pure (wpAny_pure (wpAny_pure ?_))))
 refine wpAny_bind (wpAny_newTuple (hsz:=by show 2<=sizeLine;decide) ?_)
 have hsz:h₃.objs.size=s.heap.objs.size:=by rw[hs₃.1,hs₂.1,hs₁.1]
 have hz₃:aN8 h₃ z TI TO T true:=hs₃.extBut _ _ D.i2z.symm (hs₂.extBut _ _ D.i1z.symm hz₁)
 have up:∀ c o,h₃.get? c=some o->(h₃.push {cls:=.type "tuple",data:=.seq #[x,y]}).get? c=some o:=fun c o e=>Heap.get?_push_of_some _ e
 refine wpAny_pure ⟨_,rfl,?_⟩
 show Q (.ref h₃.objs.size) _
 have hp:IsPair (h₃.push {cls:=.type "tuple",data:=.seq #[x,y]}) h₃.objs.size x y:=Heap.get?_push_size _ rfl
 rw[hsz]at hp ⊢
 exact hQ _ (up _ _ hz₃) ((h1₂.extBut hs₃.extBut D.i12).at fun o e=>up _ o e) (h2₃.at fun o e=>up _ o e) hp (by rw[Heap.size_push,hsz]) fun c o c1 c3 c4 e=>up c o (hs₃.extBut _ _ c4 (hs₂.extBut _ _ c3 (hs₁.extBut _ _ c1 e)))
theorem bS6{z TI TO i1 i2 l1 l2 T:Addr}{bb:Bool}{o:Obj}{k1 k2:Nat}{xs ys:Array Value}{Q:Fin->Shared->Prop}(hh:A.handled=none)(D:ZipApart z TI TO i1 i2 l1 l2)
  (hz:aN8 s.heap z TI TO T bb) (hT:s.heap.get? T=some o) (hTI:IsPair s.heap TI (.ref i1) (.ref i2))
  (h1:s.heap.IsListIter i1 l1 k1) (h2:s.heap.IsListIter i2 l2 k2) (hl1:s.heap.IsList l1 xs) (hl2:s.heap.IsList l2 ys) (hend:xs[k1]? = none\/ys[k2]? = none)
  (hE:∀ h' e,(∀ c o,c≠z->c≠i1->c≠i2->s.heap.get? c=some o->h'.get? c=some o)->(∃ o,h'.get? e=some o/\o.cls=.type "StopIteration")->E (.ref e) {s with heap:=h'}) :
  wpAny (model prog w) A (Builtin.«zip.__next__» ⟨[.ref z],[]⟩) Q E s:=by
 (show wpAny _ _ (field (.ref z) 2 >>= _) _ _ _;refine wpAny_bind (wpAny_field hz.heap rfl (x:=.bool false) rfl ?_))
 (show wpAny _ _ (field (.ref z) 3 >>= _) _ _ _;refine wpAny_bind (wpAny_field hz.heap rfl (x:=.ref TI) rfl ?_))
 refine wpAny_bind (wpAny_seqItems hTI rfl ?_)
 (show wpAny _ _ (Builtin.SmallTypes.ownedTupleIsFree (.ref z) >>= _) _ _ _;refine wpAny_bind (xU hz hT fun h₁ hz₁ hs₁=>?_))
 rw[if_neg (by decide)]
 try (refine wpAny_bind (wpAny_pure ?_))
 refine wpAny_bind ?_
 simp only[List.forIn_toArray,List.forIn_cons,List.forIn_nil]
 refine wpAny_bind (wpAny_bind (wpAny_holding ?_))
 (show wpAny _ _ (Builtin.SmallTypes.nextOf (.ref i1) >>= _) _ _ _)
 cases hx:xs[k1]? with
 | none=>
   refine wpAny_bind (wpAny_nextOf_list_end hh (h1.extBut hs₁.extBut D.i1z) (hl1.extBut hs₁.extBut D.l1z) hx fun h₂ e hs₂ he=>hE h₂ e (fun c o c1 c3 _ q=>hs₂ _ _ c3 (hs₁.extBut _ _ c1 q)) he)
 | some x=>
   have hy:ys[k2]? = none:=by
    rcases hend with h | h
    ·rw[hx]at h;exact(nomatch h)
    ·exact h
   refine wpAny_bind (wpAny_nextOf_list_item (h1.extBut hs₁.extBut D.i1z) (hl1.extBut hs₁.extBut D.l1z) hx fun h₂ h1₂ hs₂=>wpAny_pure (wpAny_pure ?_))
   refine wpAny_bind (wpAny_bind (wpAny_holding ?_))
   (show wpAny _ _ (Builtin.SmallTypes.nextOf (.ref i2) >>= _) _ _ _)
   refine wpAny_bind (wpAny_nextOf_list_end hh ((h2.extBut hs₁.extBut D.i2z).extBut hs₂.extBut D.i12.symm) ((hl2.extBut hs₁.extBut D.l2z).extBut hs₂.extBut D.l2i1) hy fun h₃ e hs₃ he=>?_)
   exact hE h₃ e (fun c o c1 c3 c4 q=>hs₃ _ _ c4 (hs₂.extBut _ _ c3 (hs₁.extBut _ _ c1 q))) he
theorem aN9{z TI TO i1 i2 l1 l2 T:Addr}{bb:Bool}{o:Obj}{k1 k2:Nat}{xs ys:Array Value}{x y:Value}{Q:Option Value->Shared->Prop}(D:ZipApart z TI TO i1 i2 l1 l2)
  (hz:aN8 s.heap z TI TO T bb) (hT:s.heap.get? T=some o) (hTI:IsPair s.heap TI (.ref i1) (.ref i2))
  (h1:s.heap.IsListIter i1 l1 k1) (h2:s.heap.IsListIter i2 l2 k2) (hl1:s.heap.IsList l1 xs) (hl2:s.heap.IsList l2 ys) (hx:xs[k1]? = some x) (hy:ys[k2]? = some y)
  (hQ:∀ h',aN8 h' z TI TO T true->h'.IsListIter i1 l1 (k1+1)->h'.IsListIter i2 l2 (k2+1)->IsPair h' s.heap.objs.size x y->h'.objs.size=s.heap.objs.size+1 ->
   (∀ c o,c≠z->c≠i1->c≠i2->s.heap.get? c=some o->h'.get? c=some o)->Q (some (.ref s.heap.objs.size)) {s with heap:=h'}) :
  wpAny (model prog w) A (pyNext (.ref z)) Q E s:=by
 have hTy:s.TypeIs (.ref z) "zip":=⟨_,hz,rfl⟩
 (unfold pyNext;refine wpAny_bind (wpAny_attempt (wpAny_callSpecial?_slot (name:=Str.ofString "__next__") hTy F.slot_zip_next ?_)))
 exact wpAny_call_entry F.slot_zip_next hTy F.entry_zip_next (aU2 D hz hT hTI h1 h2 hl1 hl2 hx hy fun h' a1 a3 a4 a5 a6 a7=>wpAny_pure (hQ h' a1 a3 a4 a5 a6 a7)) (F.args_zip_next_1 _)
theorem aU3{z TI TO i1 i2 l1 l2 T:Addr}{bb:Bool}{o:Obj}{k1 k2:Nat}{xs ys:Array Value}{Q:Option Value->Shared->Prop}(hh:A.handled=none)(D:ZipApart z TI TO i1 i2 l1 l2)
  (hz:aN8 s.heap z TI TO T bb) (hT:s.heap.get? T=some o) (hTI:IsPair s.heap TI (.ref i1) (.ref i2))
  (h1:s.heap.IsListIter i1 l1 k1) (h2:s.heap.IsListIter i2 l2 k2) (hl1:s.heap.IsList l1 xs) (hl2:s.heap.IsList l2 ys) (hend:xs[k1]? = none\/ys[k2]? = none)
  (hQ:∀ h',(∀ c o,c≠z->c≠i1->c≠i2->s.heap.get? c=some o->h'.get? c=some o)->Q none {s with heap:=h'}):wpAny (model prog w) A (pyNext (.ref z)) Q E s:=by
 have hTy:s.TypeIs (.ref z) "zip":=⟨_,hz,rfl⟩
 (unfold pyNext;refine wpAny_bind (wpAny_attempt (wpAny_callSpecial?_slot (name:=Str.ofString "__next__") hTy F.slot_zip_next ?_)))
 refine wpAny_call_entry F.slot_zip_next hTy F.entry_zip_next (bS6 hh D hz hT hTI h1 h2 hl1 hl2 hend fun h' e hk he=>?_) (F.args_zip_next_1 _)
 obtain⟨o,ho,hc⟩:=he
 exact wpAny_bind (wpAny_isInstance (T:="StopIteration") (b:=true) ⟨o,ho,hc⟩ isSubtype_stop (wpAny_pure (hQ _ hk)))
end
end L2
namespace L2
open PySem PySem.Spec PyProof.Rows
abbrev sP(acc:Array Value)(c:Nat):Obj:={cls:=.type "list",dict:=none,data:=.seq acc c,slots:=#[]}
structure LoopJ(prog:Program)(w:World)(A:Around)(I S:Addr)(n:Nat)(J:Nat->Array Value->Heap->Prop)(K:Array Value->Heap->Prop):Prop where
 item:∀ i acc (s:Shared) (c:Nat) (Q:Option Value->Shared->Prop) (E:Value->Shared->Prop),i < n->J i acc s.heap->s.heap.get? S=some (sP acc c) ->
  (∀ v h' tk,J (i+1) (acc.push v) h'->h'.get? S=some (sP acc c)->Q (some v) {s with heap:=h',toks:=tk})->wpAny (model prog w) A (pyNext (.ref I)) Q E s
 done:∀ acc (s:Shared) (c:Nat) (Q:Option Value->Shared->Prop) (E:Value->Shared->Prop),J n acc s.heap->s.heap.get? S=some (sP acc c) ->
  (∀ h' tk,K acc h'->h'.get? S=some (sP acc c)->Q none {s with heap:=h',toks:=tk})->wpAny (model prog w) A (pyNext (.ref I)) Q E s
 frame:∀ i acc h h',J i acc h->h'.objs.size=h.objs.size->(∀ b o,b≠S->h.get? b=some o->h'.get? b=some o)->J i acc h'
section
variable{prog:Program}{w:World}{A:Around}{E:Value->Shared->Prop}{I S:Addr}{n:Nat}{J:Nat->Array Value->Heap->Prop}{K:Array Value->Heap->Prop}{R:Result->Shared->Prop}
theorem cV3(L:LoopJ prog w A.in1 I S n J K)(hn:n<=sizeLine)(res:Value):∀ (k i:Nat) (s:Shared) (acc:Array Value) (c:Nat),n-i=k->i<=n->J i acc s.heap->acc.size=i->s.heap.get? S=some (sP acc c) ->
  (∀ h' tk acc' c',K acc' h'->acc'.size=n->h'.get? S=some (sP acc' c')->R (.ok (.ret res)) {s with heap:=h',toks:=tk})->codeAny (model prog w) A (.builtin "list.extend.loop" ⟨[.ref S,.ref I,res],[]⟩) R s:=by
 intro k
 induction k with
 | zero=>
   intro i s acc c hk hi hJ ha hS hR
   obtain rfl:i=n:=by omega
   (refine codeAny_builtin F.entry_extend_loop ?_;rw[Around.under_plainId F.plain_extend_loop _])
   (show wpAny _ A.in1 (pyNext (.ref I) >>= _) _ _ s;refine wpAny_bind (L.done acc s c _ _ hJ hS fun h' tk hK hS'=>?_))
   exact wpAny_pure (hR h' tk acc c hK ha hS')
 | succ k ih=>
   intro i s acc c hk hi hJ ha hS hR
   have hlt:i < n:=by omega
   (refine codeAny_builtin F.entry_extend_loop ?_;rw[Around.under_plainId F.plain_extend_loop _])
   (show wpAny _ A.in1 (pyNext (.ref I) >>= _) _ _ s;refine wpAny_bind (L.item i acc s c _ _ hlt hJ hS fun v h' tk hJ' hS'=>?_))
   (show wpAny _ A.in1 (updateSeq S (·.push v) >>= _) _ _ _;refine wpAny_bind ?_)
   refine wpAny_updateSeq hS' rfl (wpAny_pure ⟨plainId_quiet F.plain_extend_loop _,ih (i+1) _ (acc.push v) (c+1) (by omega) hlt ?_ (by rw[Array.size_push,ha]) ?_ ?_⟩) (by rw[ha];omega) (by show(acc.push v).size<=sizeLine+1;rw[Array.size_push,ha];omega)
   ·exact L.frame _ _ _ _ hJ' (Heap.size_update ..) fun b o hb e=>(Heap.get?_update_other _ _ (Ne.symm hb)).trans e
   ·rw[Heap.get?_update_self _ hS' rfl]
    simp[Obj.mapSeq]
   ·intro h'' tk'' acc' c' hK hsz hS''
    exact hR h'' tk'' acc' c' hK hsz hS''
theorem cI2(L:LoopJ prog w A.in1 I S n J K)(hn:n<=sizeLine)(res:Value){s:Shared}{c:Nat}{T:String}(hT:s.TypeIs (.ref I) T)(hne:S≠I)(h2:(Value.type T==Value.type "list")=false)(h3:(Value.type T==Value.type "tuple")=false)
  (self:∀ Q:Value->Shared->Prop,Q (.ref I) s->wpAny (model prog w) A.in1 (pyIter (.ref I)) Q (fun e s'=>R (.error e) s') s)
  (hint:∀ Q:Bool->Shared->Prop,(∀ b,Q b s)->wpAny (model prog w) A.in1 (Builtin.List.listLengthHint (.ref I)) Q (fun e s'=>R (.error e) s') s)
  (hJ:J 0 #[] s.heap) (hS:s.heap.get? S=some (sP #[] c)) (hR:∀ h' tk acc' c',K acc' h'->acc'.size=n->h'.get? S=some (sP acc' c')->R (.ok (.ret res)) {s with heap:=h',toks:=tk}) :
  wpAny (model prog w) A.in1 (Builtin.List.listExtendWith (.ref S) (.ref I) res) (fun fin s'=>match fin with | .done f=>R (.ok f) s' | .again c'=>c'.quiet=true/\codeAny (model prog w) A c' R s') (fun e s'=>R (.error e) s') s:=by
 unfold Builtin.List.listExtendWith
 refine wpAny_bind (wpAny_typeOf hT ?_)
 have h1:Builtin.List.listSameRef (.ref S) (.ref I)=false:=by simp[Builtin.List.listSameRef,hne]
 rw[if_neg (by rw[h1,h2,h3];decide)]
 refine wpAny_bind (self _ (wpAny_bind (wpAny_holding (hint _ fun b=>?_))))
 refine wpAny_ite_split (fun _=>?_) (fun _=>wpAny_pure ⟨plainId_quiet F.plain_extend_loop _,cV3 L hn res n 0 s #[] c rfl (Nat.zero_le _) hJ rfl hS hR⟩)
 (refine wpAny_bind (wpAny_rule ?_);refine wpAny_bind ?_)
 (show wpAny _ _ (updateSeq S (·.push .none) >>= fun _=>updateSeq S (·.pop)) _ _ _;refine wpAny_bind (wpAny_updateSeq hS rfl ?_))
 have hS₂:(s.heap.update S (Obj.mapSeq (·.push Value.none))).get? S=some (sP #[.none] (c+1)):=by
  rw[Heap.get?_update_self _ hS rfl]
  simp[Obj.mapSeq]
 refine wpAny_updateSeq (hz:=by seq_fits) hS₂ rfl ?_
 have hS₃:((s.heap.update S (Obj.mapSeq (·.push Value.none))).update S (Obj.mapSeq (·.pop))).get? S=some (sP #[] (c+2)):=by
  rw[Heap.get?_update_self _ hS₂ rfl]
  simp[Obj.mapSeq]
 refine wpAny_pure ⟨plainId_quiet F.plain_extend_loop _,cV3 L hn res n 0 _ #[] (c+2) rfl (Nat.zero_le _) (L.frame _ _ _ _ hJ ?_ fun b o hb e=>?_) rfl hS₃ hR⟩
 ·exact(Heap.size_update ..).trans (Heap.size_update ..)
 ·exact(Heap.get?_update_other _ _ (Ne.symm hb)).trans ((Heap.get?_update_other _ _ (Ne.symm hb)).trans e)
end
theorem aU4:typeLookup (.type "zip") "__len__"=pure none:=by(rw[typeLookup_type,builtinLookup_eq_fast];kernel_rfl)
theorem aO0:typeLookup (.type "zip") "__length_hint__"=pure none:=by(rw[typeLookup_type,builtinLookup_eq_fast];kernel_rfl)
section
variable{prog:Program}{w:World}{A:Around}{E:Value->Shared->Prop}{s:Shared}{I:Addr}{Q:Bool->Shared->Prop}
theorem bS7(hT:s.TypeIs (.ref I) "zip")(h:∀ b,Q b s):wpAny (model prog w) A (Builtin.List.listLengthHint (.ref I)) Q E s:=by
 unfold Builtin.List.listLengthHint
 refine wpAny_bind (wpAny_specialOf hT aU4 ?_)
 (show wpAny _ A (specialOf (Value.ref I) (Str.ofString "__length_hint__") >>= _) _ _ _;refine wpAny_bind (wpAny_specialOf hT aO0 ?_))
 exact wpAny_pure (h _)
end
end L2
namespace L2
open PySem PySem.Spec PyProof.Rows
theorem cI3{X:Cx}{T U:String}{x y:Str}{p p' pos pos':Pos}{e:Expr}{es:List Expr}{t:TA}{r:List V->Hp->VK->Prop}
  (hc:∀ pins s σ H vs us Q,Inv X pins σ H s->cF vs us->r vs H Q->wpAny (model X.prog X.w) X.A (call (.type U) us) (fun u s1=>wpAny (model X.prog X.w) X.A (call (.type T) [u]) (EP X pins σ Q) X.xe s1) X.xe s)
  (hg:Gl X x) (hm:X.mg x=none) (hv:bootBuiltins x=some (.type T)) (hg':Gl X y) (hm':X.mg y=none) (hv':bootBuiltins y=some (.type U)) (ha:PA X (e::es) t)
  (hn:x≠"__name__":=by decide) (hdb:(x==("__debug__":Str))=false:=by decide) (hn':y≠"__name__":=by decide) (hdb':(y==("__debug__":Str))=false:=by decide)
  (he:starEach (e::es) X.env=(false,eval e X.env)::starEach es X.env:=by rfl) (hpl:(backTo pos' (starEach es X.env)).any (·.1)=false:=by rfl)
  (hs:starEach [.Call (.Name y p') (e::es) [] pos'] X.env=(false,eval (.Call (.Name y p') (e::es) [] pos') X.env)::starEach [] X.env:=by rfl) :
  PE X (.Call (.Name x p) [.Call (.Name y p') (e::es) [] pos'] [] pos) (tCB r t):=by
 intro pins s σ H Q I h
 refine wpAny_Call_Name_kw (kZ I hg hm hv ?_ hn hdb)
 refine PyProof.Rows.callWith_type1 ?_ hs (by rfl)
 rw[hs]
 (show wpAny _ _ (spliced ((false,eval (.Call (.Name y p') (e::es) [] pos') X.env)::backTo pos (starEach [] X.env))) _ _ s;refine Calls.spliced_cons ?_)
 refine wpAny_Call_Name_kw (kZ I hg' hm' hv' ?_ hn' hdb')
 refine PyProof.Rows.callWith_type1 ?_ he hpl
 exact thn (ha pos' pins s σ H _ I h) fun us s1 ⟨vs,H1,I1,r1,q1⟩=>thn (hc pins s1 σ H1 vs us Q I1 r1 q1) fun u s2 h2=>Calls.spliced_nil h2
theorem Inv.adoptAll{X:Cx}{pins:List (Addr×Obj)}{σ:St}{s:Shared}:∀ (ps:List (Addr×List V)) {H:Hp},Inv X pins σ H s->(∀ p∈ps,Stray X pins H p.1)->(ps.map (·.1)).Nodup ->
  (∀ p∈ps,p.2.length<=sizeLine/\∃ its:List Value,cF p.2 its/\IsTup s.heap p.1 its.toArray/\dI4 s.heap p.1) ->
  ∃ H',Inv X pins σ H' s/\lX H H'/\(∀ p∈ps,H' p.1=some (.tup p.2))/\∀ b,(∀ p∈ps,p.1≠b)->H' b=H b
 | [],H,I,_,_,_=>⟨H,I,lX.refl H,(fun p hp=>absurd hp (by simp)),fun b _=>rfl⟩
 | p::ps,H,I,hs,hnd,ho=>by
   obtain⟨a,xs⟩:=p
   have st:=hs (a,xs) List.mem_cons_self
   obtain⟨hz,its,vr,ht⟩:=ho (a,xs) List.mem_cons_self
   have I1:Inv X pins σ (upd H a (.tup xs)) s:=I.adopt st.un st.young st.loc st.cell st.pin ⟨hz,its,vr,ht⟩
   rw[List.map_cons,List.nodup_cons]at hnd
   have hne:∀ q∈ps,q.1≠a:=fun q hq z=>hnd.1 (List.mem_map.mpr ⟨q,hq,z⟩)
   obtain⟨H',I',hsame,hps,hoth⟩:=Inv.adoptAll ps I1 (fun q hq=>by
    have sq:=hs q (List.mem_cons_of_mem _ hq)
    exact⟨by rw[aF (hne q hq)];exact sq.un,sq.loc,sq.young,sq.cell,sq.pin⟩) hnd.2 (fun q hq=>ho q (List.mem_cons_of_mem _ hq))
   refine⟨H',I',(bR st.un).trans hsame,fun q hq=>?_,fun b hb=>?_⟩
   ·rcases List.mem_cons.mp hq with rfl | hq
    ·exact hsame a _ aG
    ·exact hps q hq
   ·rw[hoth b fun q hq=>hb q (List.mem_cons_of_mem _ hq),aF fun z=>hb (a,xs) List.mem_cons_self z.symm]
section
variable{prog:Program}{w:World}{A:Around}{E:Value->Shared->Prop}{s:Shared}
end
end L2
namespace L2
open PySem PySem.Spec PyProof.Rows
section
variable{X:Cx}
end
structure ZJ(h0:Heap)(l1 l2:Addr)(xs ys:Array Value)(i:Nat)(acc:Array Value)(h:Heap):Prop where
 keep:∀ b o,h0.get? b=some o->h.get? b=some o
 st:(i=0/\IsZip h (h0.objs.size+4) (h0.objs.size+2) (h0.objs.size+3) .none)\/∃ T b o,aN8 h (h0.objs.size+4) (h0.objs.size+2) (h0.objs.size+3) T b/\h.get? T=some o/\h0.objs.size+6<=T
 ti:IsPair h (h0.objs.size+2) (.ref h0.objs.size) (.ref (h0.objs.size+1))
 to:∃ a b,IsPair h (h0.objs.size+3) a b
 i1:h.IsListIter h0.objs.size l1 i
 i2:h.IsListIter (h0.objs.size+1) l2 i
 sz:h0.objs.size+6<=h.objs.size
 len:acc.size=i
 got:∀ j,j < i->∃ T x y,acc[j]? = some (.ref T)/\xs[j]? = some x/\ys[j]? = some y/\IsPair h T x y/\h0.objs.size+6<=T
 nd:acc.toList.Nodup
structure ZK(h0:Heap)(xs ys:Array Value)(acc:Array Value)(h:Heap):Prop where
 keep:∀ b o,h0.get? b=some o->h.get? b=some o
 got:∀ j,j < min xs.size ys.size->∃ T x y,acc[j]? = some (.ref T)/\xs[j]? = some x/\ys[j]? = some y/\IsPair h T x y/\h0.objs.size+6<=T
 nd:acc.toList.Nodup
section
variable{prog:Program}{w:World}{A:Around}{E:Value->Shared->Prop}{s:Shared}
theorem aU5{N l1 l2:Addr}(h1:l1 < N)(h2:l2 < N):ZipApart (N+4) (N+2) (N+3) N (N+1) l1 l2:=by
 constructor<;>(unfold Addr at *;omega)
theorem aO1{acc:Array Value}{v:Value}(h:acc.toList.Nodup)(hn:∀ j:Nat,acc[j]? ≠ some v):(acc.push v).toList.Nodup:=by
 rw[Array.toList_push,List.nodup_append]
 refine⟨h,by simp,fun a ha b hb e=>?_⟩
 have hb':=List.mem_singleton.mp hb
 subst hb' e
 obtain⟨j,hj,e⟩:=List.getElem_of_mem ha
 exact hn j (by rw[← Array.getElem?_toList,List.getElem?_eq_getElem hj,e])
theorem bS8{h0:Heap}{l1 l2:Addr}{xs ys:Array Value}(hh:A.handled=none)(hl1:h0.IsList l1 xs)(hl2:h0.IsList l2 ys) :
  LoopJ prog w A (h0.objs.size+4) (h0.objs.size+5) (min xs.size ys.size) (ZJ h0 l1 l2 xs ys) (ZK h0 xs ys):=by
 have lt1:l1 < h0.objs.size:=by obtain⟨_,e,_⟩:=hl1;exact Heap.lt_size e
 have lt2:l2 < h0.objs.size:=by obtain⟨_,e,_⟩:=hl2;exact Heap.lt_size e
 have D:=aU5 lt1 lt2
 have big:∀ {b:Addr} {o:Obj},h0.get? b=some o->b≠h0.objs.size+4/\b≠h0.objs.size+3/\b≠h0.objs.size/\b≠h0.objs.size+1/\b≠h0.objs.size+5:=fun e=>by
  have:=Heap.lt_size e
  unfold Addr at *
  omega
 refine⟨fun i acc s' c Q' E' hi J hS hQ'=>?_,fun acc s' c Q' E' J hS hQ'=>?_,fun i acc h h' J hz hk=>?_⟩
 ·have hx:xs[i]? = some xs[i]:=Array.getElem?_eq_getElem (by omega)
  have hy:ys[i]? = some ys[i]:=Array.getElem?_eq_getElem (by omega)
  have L1:s'.heap.IsList l1 xs:=hl1.at fun o e=>J.keep _ o e
  have L2:s'.heap.IsList l2 ys:=hl2.at fun o e=>J.keep _ o e
  have sz:=J.sz
  -- what the next state holds
  have nxt:∀ h':Heap,((∃ T b o,aN8 h' (h0.objs.size+4) (h0.objs.size+2) (h0.objs.size+3) T b/\h'.get? T=some o/\h0.objs.size+6<=T))->(∃ a b,IsPair h' (h0.objs.size+3) a b)->h'.IsListIter h0.objs.size l1 (i+1)->h'.IsListIter (h0.objs.size+1) l2 (i+1)->IsPair h' s'.heap.objs.size xs[i] ys[i] ->
    h'.objs.size=s'.heap.objs.size+1->(∀ c o,c≠h0.objs.size+4->c≠h0.objs.size+3->c≠h0.objs.size->c≠h0.objs.size+1->s'.heap.get? c=some o->h'.get? c=some o) ->
    ZJ h0 l1 l2 xs ys (i+1) (acc.push (.ref s'.heap.objs.size)) h':=by
   intro h' z1 z2 z3 z4 z5 z6 z7
   have far:∀ T,h0.objs.size+6<=T->T≠h0.objs.size+4/\T≠h0.objs.size+3/\T≠h0.objs.size/\T≠h0.objs.size+1:=fun T hT=>by unfold Addr at *;omega
   refine⟨fun b o e=>?_,.inr z1,?_,z2,z3,z4,by unfold Addr at *;omega,by rw[Array.size_push,J.len],fun j hj=>?_,aO1 J.nd fun j e=>?_⟩
   ·obtain⟨b1,b2,b3,b4,_⟩:=big e
    exact z7 b o b1 b2 b3 b4 (J.keep b o e)
   ·exact z7 _ _ (by unfold Addr at *;omega) (by unfold Addr at *;omega) (by unfold Addr at *;omega) (by unfold Addr at *;omega) J.ti
   ·by_cases hji:j=i
    ·subst hji
     exact⟨s'.heap.objs.size,_,_,by rw[Array.getElem?_push,J.len,if_pos rfl],hx,hy,z5,sz⟩
    ·obtain⟨T,x,y,e1,e2,e3,e4,e5⟩:=J.got j (by omega)
     obtain⟨b1,b2,b3,b4⟩:=far T e5
     exact⟨T,x,y,by rw[Array.getElem?_push,J.len,if_neg hji];exact e1,e2,e3,z7 _ _ b1 b2 b3 b4 e4,e5⟩
   ·by_cases hj:j < i
    ·obtain⟨T,x,y,e1,_,_,e4,_⟩:=J.got j hj
     rw[e1]at e
     have eT:T=s'.heap.objs.size:=by cases e;rfl
     have:=Heap.lt_size e4
     rw[eT]at this
     exact Nat.lt_irrefl _ this
    ·rw[Array.getElem?_eq_none (by rw[J.len];omega)]at e
     cases e
  have sS:∀ h':Heap,(∀ c o,c≠h0.objs.size+4->c≠h0.objs.size+3->c≠h0.objs.size->c≠h0.objs.size+1->s'.heap.get? c=some o->h'.get? c=some o)->h'.get? (h0.objs.size+5)=some (sP acc c):=fun h' z7=>
   z7 _ _ (by unfold Addr at *;omega) (by unfold Addr at *;omega) (by unfold Addr at *;omega) (by unfold Addr at *;omega) hS
  rcases J.st with⟨rfl,hz⟩ | ⟨T,b,o,hz,hT,hTN⟩
  ·obtain⟨a,b,hTO⟩:=J.to
   refine wpAny_pyNext_zip_item D hz J.ti hTO J.i1 J.i2 L1 L2 hx hy fun h' a1 a2 a3 a4 a5 a6 a7=>?_
   exact hQ' _ h' s'.toks (nxt h' ⟨_,false,_,a1,a5,sz⟩ ⟨_,_,a2⟩ a3 a4 a5 a6 a7) (sS h' a7)
  ·obtain⟨a,b',hTO⟩:=J.to
   refine aN9 D hz hT J.ti J.i1 J.i2 L1 L2 hx hy fun h' a1 a3 a4 a5 a6 a7=>?_
   have a7':∀ c o,c≠h0.objs.size+4->c≠h0.objs.size+3->c≠h0.objs.size->c≠h0.objs.size+1->s'.heap.get? c=some o->h'.get? c=some o:=fun c o c1 _ c3 c4 e=>a7 c o c1 c3 c4 e
   have hT':h'.get? T=some o:=a7 T o (by unfold Addr at *;omega) (by unfold Addr at *;omega) (by unfold Addr at *;omega) hT
   exact hQ' _ h' s'.toks (nxt h' ⟨T,true,o,a1,hT',hTN⟩ ⟨a,b',a7 _ _ (by unfold Addr at *;omega) (by unfold Addr at *;omega) (by unfold Addr at *;omega) hTO⟩ a3 a4 a5 a6 a7') (sS h' a7')
 ·have L1:s'.heap.IsList l1 xs:=hl1.at fun o e=>J.keep _ o e
  have L2:s'.heap.IsList l2 ys:=hl2.at fun o e=>J.keep _ o e
  have hend:xs[min xs.size ys.size]? = none\/ys[min xs.size ys.size]? = none:=by
   by_cases h:xs.size<=ys.size
   ·exact .inl (Array.getElem?_eq_none (by omega))
   ·exact .inr (Array.getElem?_eq_none (by omega))
  have fin:∀ h':Heap,(∀ c o,c≠h0.objs.size+4->c≠h0.objs.size+3->c≠h0.objs.size->c≠h0.objs.size+1->s'.heap.get? c=some o->h'.get? c=some o)->ZK h0 xs ys acc h'/\h'.get? (h0.objs.size+5)=some (sP acc c):=fun h' z7=>by
   refine⟨⟨fun b o e=>?_,fun j hj=>?_,J.nd⟩,z7 _ _ (by unfold Addr at *;omega) (by unfold Addr at *;omega) (by unfold Addr at *;omega) (by unfold Addr at *;omega) hS⟩
   ·obtain⟨b1,b2,b3,b4,_⟩:=big e
    exact z7 b o b1 b2 b3 b4 (J.keep b o e)
   ·obtain⟨T,x,y,e1,e2,e3,e4,e5⟩:=J.got j hj
    exact⟨T,x,y,e1,e2,e3,z7 _ _ (by unfold Addr at *;omega) (by unfold Addr at *;omega) (by unfold Addr at *;omega) (by unfold Addr at *;omega) e4,e5⟩
  rcases J.st with⟨_,hz⟩ | ⟨T,b,o,hz,hT,hTN⟩
  ·obtain⟨a,b,hTO⟩:=J.to
   exact wpAny_pyNext_zip_end hh D hz J.ti hTO J.i1 J.i2 L1 L2 hend fun h' hk=>hQ' h' s'.toks (fin h' hk).1 (fin h' hk).2
  ·refine aU3 hh D hz hT J.ti J.i1 J.i2 L1 L2 hend fun h' hk=>?_
   have:=fin h' fun c o c1 _ c3 c4 e=>hk c o c1 c3 c4 e
   exact hQ' h' s'.toks this.1 this.2
 ·have k5:∀ {b:Addr} {o:Obj},b≠h0.objs.size+5->h.get? b=some o->h'.get? b=some o:=fun hb e=>hk _ _ hb e
  refine⟨fun b o e=>k5 (big e).2.2.2.2 (J.keep b o e),?_,k5 (by unfold Addr at *;omega) J.ti,?_,J.i1.at fun o e=>k5 (by unfold Addr at *;omega) e,J.i2.at fun o e=>k5 (by unfold Addr at *;omega) e,by rw[hz];exact J.sz,J.len,fun j hj=>?_,J.nd⟩
  ·rcases J.st with⟨z,hz'⟩ | ⟨T,b,o,hz',hT,hTN⟩
   ·exact .inl ⟨z,k5 (by unfold Addr at *;omega) hz'⟩
   ·exact .inr ⟨T,b,o,k5 (by unfold Addr at *;omega) hz',k5 (by unfold Addr at *;omega) hT,hTN⟩
  ·obtain⟨a,b,hTO⟩:=J.to
   exact⟨a,b,k5 (by unfold Addr at *;omega) hTO⟩
  ·obtain⟨T,x,y,e1,e2,e3,e4,e5⟩:=J.got j hj
   exact⟨T,x,y,e1,e2,e3,k5 (by unfold Addr at *;omega) e4,e5⟩
end
end L2
namespace L2
open PySem PySem.Spec PyProof.Rows
section
variable{prog:Program}{w:World}{A:Around}{E:Value->Shared->Prop}{s:Shared}
theorem zS{h0:Heap}{l1 l2:Addr}{xs ys:Array Value}{Q:List Value->Shared->Prop}(hh:A.handled=none)(hl1:h0.IsList l1 xs)(hl2:h0.IsList l2 ys)(hn:min xs.size ys.size<=sizeLine)
  (hz:IsZip s.heap (h0.objs.size+4) (h0.objs.size+2) (h0.objs.size+3) .none) (ti:IsPair s.heap (h0.objs.size+2) (.ref h0.objs.size) (.ref (h0.objs.size+1))) (to:IsPair s.heap (h0.objs.size+3) .none .none)
  (i1:s.heap.IsListIter h0.objs.size l1 0) (i2:s.heap.IsListIter (h0.objs.size+1) l2 0) (hsz:s.heap.objs.size=h0.objs.size+5) (hk:∀ b o,h0.get? b=some o->s.heap.get? b=some o)
  (hQ:∀ h' tk acc,ZK h0 xs ys acc h'->acc.size=min xs.size ys.size->Q acc.toList {s with heap:=h',toks:=tk}):wpAny (model prog w) A (collect (.ref (h0.objs.size+4))) Q E s:=by
 have key:∀ R:Result->Shared->Prop,(∀ h' tk acc c,ZK h0 xs ys acc h'->acc.size=min xs.size ys.size->h'.get? (h0.objs.size+5)=some (sP acc c)->R (.ok (.ret (.ref (h0.objs.size+5)))) {s with heap:=h',toks:=tk}) ->
   codeAny (model prog w) A (.builtin "proto.collect" ⟨[.ref (h0.objs.size+4)],[]⟩) R s:=by
  intro R hR
  (refine codeAny_builtin F.entry_proto_collect ?_;rw[Around.under_plainId F.plain_proto_collect _])
  (show wpAny _ A.in1 (newList [] >>= fun l=>again (.builtin "list.__iadd__" ⟨[l,.ref (h0.objs.size+4)],[]⟩)) _ _ s;refine wpAny_bind (wpAny_newObj_type ?_))
  (refine wpAny_pure ⟨plainId_quiet F.plain_list_iadd _,codeAny_builtin F.entry_list_iadd ?_⟩;rw[Around.under_plainId F.plain_list_iadd _])
  have hS:(s.heap.push (sP #[] 0)).get? (h0.objs.size+5)=some (sP #[] 0):=by rw[← hsz];exact Heap.get?_push_size _ rfl
  have up:∀ b o,s.heap.get? b=some o->(s.heap.push (sP #[] 0)).get? b=some o:=fun b o e=>Heap.get?_push_of_some _ e
  have hp:(s.heap.push (sP #[] 0)).objs.size=h0.objs.size+6:=by rw[Heap.size_push,hsz]
  have hz1:IsZip (s.heap.push (sP #[] 0)) (h0.objs.size+4) (h0.objs.size+2) (h0.objs.size+3) .none:=up _ _ hz
  (show wpAny _ A.in1 (Builtin.List.listExtendWith (.ref s.heap.objs.size) (.ref (h0.objs.size+4)) (.ref s.heap.objs.size)) _ _ {s with heap:=s.heap.push (sP #[] 0)})
  rw[hsz]
  have hT:Shared.TypeIs {s with heap:=s.heap.push (sP #[] 0)} (.ref (h0.objs.size+4)) "zip":=⟨_,hz1,rfl⟩
  exact cI2 (R:=R) (bS8 (A:=A.in1) hh hl1 hl2) hn (.ref (h0.objs.size+5)) (s:={s with heap:=s.heap.push (sP #[] 0)}) (c:=0) hT (by unfold Addr at *;omega) (by decide) (by decide)
   (fun Q' hq=>wpAny_pyIter_zip hz1 hq) (fun Q' hq=>bS7 hT hq) ⟨fun b o e=>up b o (hk b o e),.inl ⟨rfl,hz1⟩,up _ _ ti,⟨_,_,up _ _ to⟩,i1.at fun o e=>up _ o e,i2.at fun o e=>up _ o e,by rw[hp];exact Nat.le_refl _,rfl,fun j hj=>absurd hj (Nat.not_lt_zero _),by simp⟩ hS
   fun h' tk acc' c' hK hsz' hS'=>hR h' tk acc' c' hK hsz' hS'
 (unfold collect;refine wpAny_bind (wpAny_runValue (key _ fun h' tk acc c hK hsz' hS'=>?_)))
 (show wpAny _ A (load (h0.objs.size+5) >>= _) _ _ _;refine wpAny_bind (wpAny_load hS' ?_))
 exact wpAny_pure (hQ h' tk acc hK hsz')
theorem zT{h0:Heap}{l1 l2:Addr}{xs ys:Array Value}{Q:Value->Shared->Prop}(hh:A.handled=none)(hl1:h0.IsList l1 xs)(hl2:h0.IsList l2 ys)(hn:min xs.size ys.size<=sizeLine)
  (hz:IsZip s.heap (h0.objs.size+4) (h0.objs.size+2) (h0.objs.size+3) .none) (ti:IsPair s.heap (h0.objs.size+2) (.ref h0.objs.size) (.ref (h0.objs.size+1))) (to:IsPair s.heap (h0.objs.size+3) .none .none)
  (i1:s.heap.IsListIter h0.objs.size l1 0) (i2:s.heap.IsListIter (h0.objs.size+1) l2 0) (hsz:s.heap.objs.size=h0.objs.size+5) (hk:∀ b o,h0.get? b=some o->s.heap.get? b=some o)
  (hQ:∀ h' tk acc,ZK h0 xs ys acc h'->acc.size=min xs.size ys.size->Q (.ref h'.objs.size) {s with heap:=h'.push {cls:=.type "tuple",data:=.seq acc},toks:=tk}) :
  wpAny (model prog w) A (call (.type "tuple") [.ref (h0.objs.size+4)]) Q E s:=by
 refine callType_codes (Q₁:=fun obj s₁=>s₁.TypeIs obj "tuple"/\Q obj s₁) F.called_tuple (F.typeCall_tuple_1 _) F.entry_object_init ?_ fun obj s₁ h₁=>
  ⟨h₁.1,F.args_object_init_2 obj _,object_init_meets F.called_tuple.init.lookup F.called_tuple.made (by decide) prog w A.in1 _ s₁ ⟨h₁.1,rfl,h₁.2⟩⟩
 refine codeAny_of_tree ?_
 (show wpAny _ A.in1.in1 (do checkBuiltinCall "tuple.__new__" ⟨[.type "tuple",.ref (h0.objs.size+4)],[]⟩;again (.builtin "tuple.__new__" ⟨[.type "tuple",.ref (h0.objs.size+4)],[]⟩)) _ _ s)
 (refine wpAny_bind (wpAny_of_eq (F.newCall_tuple_1 _) (wpAny_pure ⟨plainId_quiet F.plain_tuple_new _,codeAny_builtin F.entry_tuple_new ?_⟩));rw[Around.under_plainId F.plain_tuple_new _])
 have hsub:=sub_tuple_self
 have hinit:=init_tuple_lookup
 have hmh:=madeHere_tuple
 have hTI:s.TypeIs (.ref (h0.objs.size+4)) "zip":=⟨_,hz,rfl⟩
 wp_walk using wpAny_typeOf hTI,zS (A:=A.in1.in1) hh hl1 hl2 hn hz ti to i1 i2 hsz hk
 intro h' tk acc hK hacc
 (show wpAny _ _ (Builtin.Tuple.tupleExact acc.toList.toArray >>= fun v=>ret v) _ _ _;unfold Builtin.Tuple.tupleExact)
 refine wpAny_bind (wpAny_newObj_type ?_ (by show acc.toList.toArray.size<=sizeLine;simp only[Array.toArray_toList];rw[hacc];exact hn))
 have e:acc.toList.toArray=acc:=by simp
 rw[e]
 exact wpAny_pure ⟨⟨_,Heap.get?_push_size _ rfl,rfl⟩,hQ h' tk acc hK hacc⟩
end
section
variable{X:Cx}
def cI4:List V->Hp->VK->Prop:=fun vs H Q=>∃ p q xs ys,vs=[.ref p,.ref q]/\H p=some (.lst xs)/\H q=some (.lst ys) /\
 ∀ r (ts:List Addr) H',lX H H'->H r=none->H' r=some (.tup (ts.map V.ref))->ts.length=min xs.length ys.length->(∀ (j:Nat) t,ts[j]? = some t->∃ x y,xs[j]? = some x/\ys[j]? = some y/\H' t=some (.tup [x,y]))->Q (.ref r) H'
theorem bS9(hc:X.calm=true):∀ pins s σ H vs us Q,Inv X pins σ H s->cF vs us->cI4 vs H Q ->
  wpAny (model X.prog X.w) X.A (call (.type "zip") us) (fun u s1=>wpAny (model X.prog X.w) X.A (call (.type "tuple") [u]) (EP X pins σ Q) X.xe s1) X.xe s:=by
 intro pins s σ H vs us Q I rv h
 obtain⟨p,q,xs,ys,rfl,hp,hq,q⟩:=h
 obtain⟨u,v,rfl,ru,rv'⟩:=rv.two
 cases ru
 cases rv'
 obtain⟨z1,its1,n1,r1,len1,e1⟩:=I.lstM hp
 obtain⟨z2,its2,n2,r2,len2,e2⟩:=I.lstM hq
 have hl1:s.heap.IsList p its1.toArray:=⟨_,e1,rfl,_,rfl⟩
 have hl2:s.heap.IsList _ its2.toArray:=⟨_,e2,rfl,_,rfl⟩
 refine call_zip_2 hl1 hl2 fun h1 hz hTI hTO hi1 hi2 hsz hk=>?_
 have hn:min its1.toArray.size its2.toArray.size<=sizeLine:=by simp only[List.size_toArray];omega
 refine zT (h0:=s.heap) (s:={s with heap:=h1}) (I.ok.hd hc) hl1 hl2 hn hz hTI hTO hi1 hi2 hsz hk fun h' tk acc hK hacc=>?_
 have hacc':acc.size=min its1.length its2.length:=by simpa using hacc
 -- the addresses of the pairs
 let ts:List Addr:=(List.range acc.size).map fun j=>match (acc[j]?:Option Value)with | some (Value.ref T)=>T | _=>(0:Nat)
 have tsl:ts.length=min xs.length ys.length:=by simp only[ts,List.length_map,List.length_range];omega
 have tsg:∀ j,j < acc.size->∃ T x y,ts[j]? = some T/\acc[j]? = some (.ref T)/\its1[j]? = some x/\its2[j]? = some y/\IsPair h' T x y/\s.heap.objs.size+6<=T:=fun j hj=>by
  obtain⟨T,x,y,g1,g2,g3,g4,g5⟩:=hK.got j (by simp only[List.size_toArray];omega)
  refine⟨T,x,y,?_,g1,by simpa using g2,by simpa using g3,g4,g5⟩
  simp only[ts]
  rw[List.getElem?_map,List.getElem?_range hj,Option.map_some,g1]
 let ps:List (Addr×List V):=(List.range acc.size).map fun j=>(ts[j]?.getD 0,[xs[j]?.getD .non,ys[j]?.getD .non])
 have I1:Inv X pins σ H {s with heap:=h',toks:=tk}:=I.kept hK.keep
 have hps:∀ pr∈ps,∃ j T x y u v,j < acc.size/\pr=(T,[x,y])/\ts[j]? = some T/\xs[j]? = some x/\ys[j]? = some y/\its1[j]? = some u/\its2[j]? = some v/\eG x u/\eG y v/\IsPair h' T u v/\s.heap.objs.size+6<=T:=fun pr hpr=>by
  obtain⟨j,hj,rfl⟩:=List.mem_map.mp hpr
  have hj':=List.mem_range.mp hj
  obtain⟨T,u,v,g0,g1,g2,g3,g4,g5⟩:=tsg j hj'
  have hx:xs[j]? = some xs[j]:=List.getElem?_eq_getElem (by omega)
  have hy:ys[j]? = some ys[j]:=List.getElem?_eq_getElem (by omega)
  obtain⟨u',gu,ru⟩:=r1.get hx
  obtain⟨v',gv,rv2⟩:=r2.get hy
  rw[g2]at gu;cases gu
  rw[g3]at gv;cases gv
  exact⟨j,T,xs[j],ys[j],_,_,hj',by rw[g0,hx,hy];rfl,g0,hx,hy,g2,g3,ru,rv2,g4,g5⟩
 have hnd:(ps.map (·.1)).Nodup:=by
  have:ps.map (·.1)=(List.range acc.size).map fun j=>ts[j]?.getD 0:=by simp only[ps,List.map_map];rfl
  rw[this]
  refine List.pairwise_map.mpr ?_
  refine List.Pairwise.imp_of_mem ?_ List.nodup_range
  intro i j hi hj hne e
  have hi':=List.mem_range.mp hi
  have hj':=List.mem_range.mp hj
  obtain⟨T,_,_,g0,g1,_⟩:=tsg i hi'
  obtain⟨T',_,_,g0',g1',_⟩:=tsg j hj'
  rw[g0,g0']at e
  have e':T=T':=e
  subst e'
  have h1:acc.toList[i]? = acc.toList[j]?:=by rw[Array.getElem?_toList,Array.getElem?_toList,g1,g1']
  exact hne ((List.getElem?_inj (by rw[Array.length_toList];exact hi') hK.nd).mp h1)
 obtain⟨H',I2,hsame,hat,hoth⟩:=Inv.adoptAll ps I1 (fun pr hpr=>by
   obtain⟨j,T,x,y,u,v,_,rfl,_,_,_,_,_,_,_,hT,hge⟩:=hps pr hpr
   exact I.stray (by unfold Addr at *;omega) (I.hok.fresh (by unfold Addr at *;omega))) hnd (fun pr hpr=>by
   obtain⟨j,T,x,y,u,v,_,rfl,_,_,_,_,_,ru,rv2,hT,hge⟩:=hps pr hpr
   exact⟨by show 2<=sizeLine;decide,[u,v],.cons ru (.cons rv2 .nil),⟨_,hT,rfl,_,rfl⟩,⟨_,hT,rfl⟩⟩)
 have hfr:H' h'.objs.size=none:=I2.hok.fresh (Nat.le_refl _)
 have tv:cF (ts.map V.ref) acc.toList:=by
  have ea:acc.toList=ts.map Value.ref:=by
   apply List.ext_getElem?
   intro j
   by_cases hj:j < acc.size
   ·obtain⟨T,x,y,g0,g1,_⟩:=tsg j hj
    rw[Array.getElem?_toList,g1,List.getElem?_map,g0];rfl
   ·rw[List.getElem?_eq_none_iff.mpr (by rw[Array.length_toList];omega),List.getElem?_eq_none_iff.mpr (by simp only[ts,List.length_map,List.length_range];omega)]
  rw[ea]
  generalize ts=l
  induction l with
  | nil=>exact .nil
  | cons t r ih=>exact .cons rfl ih
 refine⟨.ref h'.objs.size,upd H' h'.objs.size (.tup (ts.map V.ref)),I2.laid (t':=tk) (fun b o e=>Heap.get?_push_of_some _ e) (Nat.le_refl _) ⟨by rw[List.length_map,tsl];omega,acc.toList,tv,⟨_,Heap.get?_push_size _ rfl,rfl,0,by show Data.seq acc 0=Data.seq acc.toList.toArray 0;rw[Array.toArray_toList]⟩,⟨_,Heap.get?_push_size _ rfl,rfl⟩⟩,rfl,?_⟩
 refine q _ ts _ (hsame.trans (bR hfr)) ?_ aG tsl fun j t hj=>?_
 ·cases e:H h'.objs.size with
  | none=>rfl
  | some o=>rw[hsame _ _ e]at hfr;cases hfr
 ·have hj':j < acc.size:=by
   have:=(List.getElem?_eq_some_iff.mp hj).1
   simp only[ts,List.length_map,List.length_range]at this
   exact this
  have hmem:(ts[j]?.getD 0,[xs[j]?.getD .non,ys[j]?.getD .non])∈ps:=List.mem_map.mpr ⟨j,List.mem_range.mpr hj',rfl⟩
  have hx:xs[j]? = some xs[j]:=List.getElem?_eq_getElem (by omega)
  have hy:ys[j]? = some ys[j]:=List.getElem?_eq_getElem (by omega)
  have:=hat _ hmem
  rw[hj,hx,hy]at this
  have this':H' t=some (.tup [xs[j],ys[j]]):=this
  exact⟨xs[j],ys[j],hx,hy,bR hfr _ _ this'⟩
end
end L2
namespace L2
open PySem PySem.Spec PyProof.Rows
theorem aU6{own:List Nat}{K:PySem.W.Frag}{n:Nat}{t:TGs}(ht:bP9 own t):cG8 own (aN6 K n t):=fun x σ H Q q=>by
 unfold aN6 at q ⊢
 split at q
 ·exact⟨q.1,ht _ _ _ _ q.2⟩
 ·obtain⟨xs,h1,h2,h3⟩:=q
  exact⟨xs,h1,h2,ht _ _ _ _ h3⟩
 ·exact q.elim
def lM(t c:String):Bool:=t==c||(t=="bool"&&c=="int")
theorem bT0{K:PySem.W.Frag}{t c:String}(ht:t="NoneType"\/t="int"\/t="bool"\/t="str"\/t="list"\/t="tuple")(hc:c="int"\/c="bool"\/c="str"\/c="list"\/c="tuple"):PySem.W.kitOne K (.type t) (.type c)=some (lM t c):=by
 rcases ht with rfl | rfl | rfl | rfl | rfl | rfl<;>rcases hc with rfl | rfl | rfl | rfl | rfl<;>first | exact bS0 | rfl | (unfold PySem.W.kitOne;decide +kernel) | (unfold PySem.W.kitOne;rfl)
end L2
namespace Mr
open PySem L2 PyProof.Rows
abbrev Sps:=PySem.W.Frag->Sp
def bS(H:Hp)(p:Addr):Prop:=∃ i j:Int,H p=some (.lst [.int i,.int j])
def SameBut(p:Addr)(H H':Hp):Prop:=∀ b o,b≠p->H b=some o->H' b=some o
theorem bS.upd{H:Hp}{p q:Addr}{o:HO}(h:bS H p)(hq:H q=none):bS (L2.upd H q o) p:=by
 obtain⟨i,j,e⟩:=h
 exact⟨i,j,by rw[aF (aE e hq)];exact e⟩
theorem bS.put{H:Hp}{p q:Addr}{o:HO}(h:bS H p)(hq:q≠p):bS (L2.upd H q o) p:=by
 obtain⟨i,j,e⟩:=h
 exact⟨i,j,by rw[aF hq.symm];exact e⟩
theorem bS.same{H H':Hp}{p:Addr}(h:bS H p)(s:lX H H'):bS H' p:=by
 obtain⟨i,j,e⟩:=h
 exact⟨i,j,s _ _ e⟩
theorem bS.ne{H:Hp}{p q:Addr}(h:bS H p)(hq:H q=none):q≠p:=by
 obtain⟨i,j,e⟩:=h
 exact(aE e hq).symm
theorem SameBut.upd{H H2:Hp}{p q:Addr}{o:HO}(h:SameBut p H H2)(hq:H2 q=none):SameBut p H (L2.upd H2 q o):=fun b u hb e=>by
 have:=h b u hb e
 rw[aF (aE this hq)];exact this
theorem SameBut.put{H H2:Hp}{p q:Addr}{o:HO}(h:SameBut p H H2)(hq:H q=none):SameBut p H (L2.upd H2 q o):=fun b u hb e=>by
 rw[aF (aE e hq)];exact h b u hb e
theorem SameBut.trans{p:Addr}{H H1 H2:Hp}(h:SameBut p H H1)(h':SameBut p H1 H2):SameBut p H H2:=fun b u hb e=>h' b u hb (h b u hb e)
theorem SameBut.same{p:Addr}{H H1 H2:Hp}(h:SameBut p H H1)(h':lX H1 H2):SameBut p H H2:=fun b u hb e=>h' b u (h b u hb e)
theorem SameBut.refl{p:Addr}{H:Hp}:SameBut p H H:=fun _ _ _ e=>e
theorem SameBut.none{p q:Addr}{H H':Hp}(h:SameBut p H H')(hb:bS H' p)(hq:H' q=Option.none):H q=Option.none:=by
 cases e:H q with
 | none=>rfl
 | some o=>
   by_cases z:q=p
   ·subst z
    obtain⟨i,j,e'⟩:=hb
    rw[e']at hq;cases hq
   ·rw[h q o z e]at hq;cases hq
theorem SameBut.tup{p:Addr}{H H':Hp}(h:SameBut p H H')(hb:bS H p):eD H H':=fun q xs e=>by
 refine h q _ (fun z=>?_) e
 subst z
 obtain⟨i,j,e'⟩:=hb
 rw[e']at e;cases e
def eU:Sps:=fun _ vs H Q _=>∃ (p:Addr) (m:Int),vs=[.ref p,.int m]/\bS H p/\0 < m/\m < 1073741824 /\
 ∀ (d:Int) H',0<=d->d < m->bS H' p->SameBut p H H'->Q (.int d) H'
def fA:Sps:=fun _ vs H Q _=>∃ (p q:Addr) (b:Bool) (xs:List V),vs=[.ref p,.ref q]/\bS H p/\eP H q=some (b,xs)/\xs.length<=1000 /\
 ∀ (r:Addr) (ys:List V) H',H r=none->H' r=some (.lst ys)->ys.Perm xs->bS H' p->SameBut p H H'->Q (.ref r) H'
def Shz(z:Str):Prop:=z.length<=100/\∀ c∈z.cps.toList,c < 128
def oU:Sps:=fun _ vs H Q _=>∃ (p:Addr) (m:Int),vs=[.ref p,.int m]/\bS H p/\m=6/\0 < m /\
 ∀ (r:Addr) (zs:List Str) H',H r=none->H' r=some (.lst (zs.map V.str))->zs.length=m.toNat->(∀ z∈zs,Shz z)->bS H' p->SameBut p H H'->Q (.ref r) H'
def cV:Sps:=fun _ vs H Q _=>∃ (p q:Addr) (b:Bool) (xs:List V) (m:Int),vs=[.ref p,.ref q,.int m]/\bS H p/\eP H q=some (b,xs)/\xs.length<=1000/\0<=m /\
 ∀ (r:Addr) (ys:List V) H',H r=none->H' r=some (.tup ys)->ys.length=min m.toNat xs.length->(∀ y∈ys,y∈xs)->bS H' p->SameBut p H H'->Q (.ref r) H'
def gS(zs:List Str):Prop:=∀ z∈zs,Shz z
def hU(H:Hp)(es:List V):Prop:=∀ e∈es,∃ (c:Addr) (cs:List Str),e=.ref c/\H c=some (.tup (cs.map V.str))/\cs.length<=10/\gS cs
theorem hU.mono{H H':Hp}{es:List V}(h:hU H es)(t:eD H H'):hU H' es:=fun e he=>by
 obtain⟨c,cs,e1,e2,e3⟩:=h e he
 exact⟨c,cs,e1,t _ _ e2,e3⟩
def vM:Sps:=fun _ vs H Q _=>∃ (p q:Addr) (zs:List Str),vs=[.ref p,.ref q]/\bS H p/\H q=some (.lst (zs.map V.str))/\zs.length=6/\gS zs /\
 ∀ (r:Addr) (es:List V) H',H r=none->H' r=some (.lst es)->1<=es.length->es.length<=6->hU H' es->bS H' p->SameBut p H H'->Q (.ref r) H'
def hV:Sps:=vM
def hW:Sps:=vM
def gL:Sps:=vM
def dF9(H:Hp)(r:Addr)(zs:List Str):Prop:=∃ es:List V,H r=some (.tup es)/\es.length=zs.length/\∀ (j:Nat) z,zs[j]? = some z->∃ (a c:Addr) (cs:List Str),es[j]? = some (.ref a)/\H a=some (.tup [.str z,.ref c])/\H c=some (.tup (cs.map V.str))/\cs.length<=10/\gS cs
def jU:Sps:=fun _ vs H Q _=>∃ (p:Addr) (k:Int),vs=[.ref p,.int k]/\bS H p/\0<=k/\k<=3 /\
 ∀ (r:Addr) (zs:List Str) H',H r=none->dF9 H' r zs->1<=zs.length->zs.length<=6->gS zs->bS H' p->SameBut p H H'->Q (.ref r) H'
inductive Tr where
 | leaf (z:Str) | node (l r:Tr)
end Mr
namespace L2
open PySem PyProof.Rows
theorem zU{H:Hp}{Q:VK}{p:Addr}{xs:List V}(h:eP H p=some (true,xs)):cH6 [.ref p] H Q=∀ l,H l=none->Q (.ref l) (upd H l (.tup xs)):=
 propext ⟨fun⟨_,_,_,e,h',q⟩=>by cases e;rw[h]at h';cases h';simpa using q,fun q=>⟨p,true,xs,rfl,h,by simpa using q⟩⟩
theorem xV{H:Hp}{Q:VK}{p:Addr}{xs:List V}{lo hi:Option Int}(h:eP H p=some (true,xs))(q:∀ r,H r=none->Q (.ref r) (upd H r (.lst (pU xs lo hi)))):dF5 (.ref p) lo hi H Q:=Or.inl ⟨xs,h,q⟩
theorem dC6{i j:Int}:(if j < i then j else i)=min i j:=by
 by_cases h:j < i
 ·rw[if_pos h];omega
 ·rw[if_neg h];omega
theorem bT1{i j:Int}{R:Int->Int->Prop}:(∃ a b,[V.int i,V.int j]=[V.int a,V.int b]/\R a b)=R i j:=
 propext ⟨fun⟨a,b,e,q⟩=>by cases e;exact q,fun q=>⟨i,j,rfl,q⟩⟩
end L2
namespace L2
open PySem
theorem jV{t u:TS}{D:Ends}{σ:St}{H:Hp}(M:St->Hp->Prop)(h2:∀ σ' H',M σ' H'->u D σ' H')(h1:∀ C:St->Hp->Prop,(∀ σ' H',M σ' H'->C σ' H')->t {D with nx:=C} σ H):cR9 t u D σ H:=h1 (u D) h2
theorem lN{zs:List Str}:∀ {ys:List V},(∀ y∈ys,y∈zs.map V.str)->∃ cs:List Str,ys=cs.map V.str/\∀ c∈cs,c∈zs
 | [],_=>⟨[],rfl,fun _ h=>nomatch h⟩
 | y::r,h=>by
   obtain⟨z,hz,e⟩:=List.mem_map.mp (h y List.mem_cons_self)
   obtain⟨cs,e1,e2⟩:=lN (ys:=r) fun u hu=>h u (List.mem_cons_of_mem _ hu)
   refine⟨z::cs,by rw[List.map_cons,← e1,e],fun c hc=>?_⟩
   rcases List.mem_cons.mp hc with rfl | hc
   ·exact hz
   ·exact e2 c hc
theorem iV{H:Hp}{f:Addr}{es:List V}{o:HO}(h:H f=some (.lst es)):eD H (upd H f o):=eD.upd fun xs e=>by rw[h]at e;cases e
theorem gT{H:Hp}{f:Addr}{o:HO}(h:H f=none):eD H (upd H f o):=eD.upd fun xs e=>by rw[h]at e;cases e
theorem aI8{z:Str}:∀ {zs:List Str},inV (.str z) (zs.map V.str)=true->z∈zs
 | [],h=>by simp[inV]at h
 | y::r,h=>by
   unfold inV at h
   rw[List.map_cons,List.any_cons,Bool.or_eq_true]at h
   rcases h with h | h
   ·have:y=z:=by simpa[eqV]using h
    rw[this];exact List.mem_cons_self
   ·exact List.mem_cons_of_mem _ (aI8 h)
end L2
namespace L2
theorem dC7{α:Type}{x:α}{r:List α}:atI (x::r) 0=some x:=uI (j:=0) (by simp)
theorem aI9{K:PySem.W.Frag}{T:String}{r:V->List V->Hp->VK->Prop}{to:TE}{σ:St}{H:Hp}{Q:VK}:dF2 K T r to σ H Q=to σ H fun x H1=>tyV K T x H1/\r x [] H1 Q:=rfl
end L2
namespace Mr
open PySem L2
def cO(H0:Hp)(g:Addr)(H:Hp)(n:Nat)(es:List V):Prop:=∀ e∈es,∃ (w:Addr) (ws:List Str),e=.ref w/\H w=some (.lst (ws.map V.str))/\ws.length<=n/\gS ws/\H0 w=none/\w≠g
theorem zV{H:Hp}{w s:Addr}{ws:List Str}{es:List V}(h1:H w=some (.lst (ws.map V.str)))(h2:H s=some (.lst es)){a:Addr}(ha:V.ref a∈es):w≠s:=by
 intro z
 subst z
 rw[h1]at h2
 cases h2
 obtain⟨z,_,e⟩:=List.mem_map.mp ha
 cases e
end Mr
namespace L2
open PySem
theorem rB{X:Cx}(K:PySem.W.Frag)(hK:X.K=K){tg l:Expr}{tl:TE}(hl:PE X l tl):PI X tg l (dF6 K tl):=by rw[← hK];exact cU8 hl
theorem iW{X:Cx}{pos:Pos}(K:PySem.W.Frag)(hK:X.K=K){es:List Expr}{k:Nat}{t:TGs}{n:Nat}(hc:X.calm=true)(h:PGs X es t)
  (hn:(assignEach es X.env).length=n:=by rfl) (hst:(assignEach es X.env).findIdx? (·.1)=none:=by rfl):PG X (.Tuple es k pos) (aN6 K n t):=by rw[← hK];exact cH5 hc h hn hst
section
variable{X:Cx}{o e:Expr}{es:List Expr}{to:TE}{t:TA}{name:Str}{apos cpos:Pos}{T id:String}{r:V->List V->Hp->VK->Prop}
theorem cI5(K:PySem.W.Frag)(hK:X.K=K)(pa:PlainAttrs T)(slot:Slot T name id)(hty:typeOf (.builtin id)=pure (.type "method_descriptor"))(hm:MtR X id r)(ho:PE X o to)
  (hbase:attributeBase o name X.env (eval o X.env)=eval o X.env:=by rfl) (hline:(apos.endLine==cpos.line)=true:=by rfl):PE X (.Call (.Attribute o name apos) [] [] cpos) (dF2 K T r to):=by rw[← hK];exact cT8 pa slot hty hm ho hbase hline
theorem hX(K:PySem.W.Frag)(hK:X.K=K)(pa:PlainAttrs T)(slot:Slot T name id)(hty:typeOf (.builtin id)=pure (.type "method_descriptor"))(hm:MtR X id r)(ho:PE X o to)(ha:PA X (e::es) t)
  (hbase:attributeBase o name X.env (eval o X.env)=eval o X.env:=by rfl)
  (hfew:((backTo cpos (starEach (e::es) X.env)).all (fun x=>!x.1)&&(backToKw cpos (keywordEach [] X.env)).all (fun x=>x.1.isSome)&&decide ((e::es).length+([]:List Keyword).length+(if([]:List Keyword).isEmpty then 0 else 1) < 30))=true:=by rfl)
  (hline:(apos.endLine==cpos.line)=true:=by rfl) (hs:starEach (e::es) X.env=(false,eval e X.env)::starEach es X.env:=by rfl) (hplain:(backTo cpos (starEach es X.env)).any (·.1)=false:=by rfl) :
  PE X (.Call (.Attribute o name apos) (e::es) [] cpos) (tBM K T r to t):=by rw[← hK];exact dF3 pa slot hty hm ho ha hbase hfew hline hs hplain
end
end L2
namespace L2
open PySem
theorem aJ0{i j:Nat}{ta:TA}{D:Ends}{σ:St}{H:Hp}:dJ0 i j ta D σ H=ta σ H fun vs H1=>∃ v w,vs=[v,w]/\D.nx ((σ.set i (some v)).set j (some w)) H1:=rfl
theorem aJ1{a b:V}{R:V->V->Prop}:(∃ v w,[a,b]=[v,w]/\R v w)=R a b:=propext ⟨fun⟨_,_,e,q⟩=>by cases e;exact q,fun q=>⟨a,b,rfl,q⟩⟩
end L2
namespace Mr
open PySem L2
end Mr
namespace L2
open PySem
section
variable{H:Hp}{Q:VK}{p q:Addr}{xs:List V}
end
end L2
namespace L2
end L2
namespace Mr
open PySem L2
open PySem L2 PyProof.Rows
section
variable{p q f l sp:Addr}{t:Tr}{v:V}{es ls:List V}{zs:List Str}{H0 H H':Hp}{fs:List V}
end
end Mr
namespace L2
open PySem
structure Noted(fs:List Addr)(e T:Addr)(oe:Obj)(old:Addr->Prop)(h h':Heap):Prop where
 keep:∀ b o,b≠e->¬ old b->b∉fs->h.get? b=some o->h'.get? b=some o
 slot:∀ b o,b≠e->¬ old b->h.get? b=some o->∃ sl,h'.get? b=some {o with slots:=sl}
 there:∀ b o,h.get? b=some o->∃ o',h'.get? b=some o'
 exc:h'.get? e=some (oe.mapFields (·.setIfInBounds 1 (.ref T)))
 new:h.objs.size<=T
 tb:∃ oT ts,h'.get? T=some oT/\oT.data=.fields ts/\ts[3]? = some .none
section
variable{M:Model}{A:Around}{E:Value->Shared->Prop}{s:Shared}
theorem aJ2{base:Heap}{env:Env}{outer:List Env}{L e:Addr}{oe:Obj}{vs:Array Value}{head:Value}{hadNext:Bool}{Q:Unit->Shared->Prop}
  (hfr:A.frames=some (env::outer)) (hl:s.heap.FunFrames base (env::outer)) (hf:env.frame=some L) (he:s.heap.get? e=some oe) (hd:oe.data=.fields vs) (hsz:1 < vs.size)
  (h:∀ (h':Heap) (T:Addr),Noted ((env::outer).filterMap (·.frame)) e T oe (fun _=>False) s.heap h'->Q () {s with heap:=h'}) :
  wpAny M A (do let a ← frameOf env;let pl ← entryPlaceOf L hadNext;let b ← EntryCells.newEntry head a .none (rawInt L) .none pl;setField (.ref e) 1 b) (fun _ s'=>wpAny M A (setFlight (.ref e) none) Q E s') E s:=by
 have nfr:e∉(env::outer).filterMap (·.frame):=fun hm=>by
  obtain⟨_,o,ho,hnf⟩:=hl.mem hm
  rw[he]at ho
  cases ho
  exact hnf vs hd
 refine wpAny_bind (wpAny_frameOf_fun hfr hl hf fun h1 hs1=>?_)
 refine wpAny_bind (wpAny_entryPlaceOf fun pl hpl=>?_)
 unfold EntryCells.newEntry newFields
 refine wpAny_bind (wpAny_newObj_type ?_ (hpl.sizeOk5 _ _ _ _ _))
 have he1:h1.get? e=some oe:=(hs1.2.1 e nfr).trans he
 generalize htb:({cls:=.type "traceback",dict:=none,data:=.fields ([head,.ref L,.none,rawInt L,.none]++(if pl.isEmpty then List.replicate 6 Value.none else pl)).toArray}:Obj)=otb
 have he2:(h1.push otb).get? e=some oe:=Heap.get?_push_of_some _ he1
 have hTe:h1.objs.size≠e:=Nat.ne_of_gt (Heap.lt_size he1)
 refine wpAny_setField he2 hd hsz ?_
 have hd3:=Obj.data_mapFields hd (·.setIfInBounds 1 (Value.ref h1.objs.size))
 have he3:=Heap.get?_update_self (Obj.mapFields (·.setIfInBounds 1 (Value.ref h1.objs.size))) he2 (Obj.isFreed_of_fields hd3)
 have hT3:((h1.push otb).update e (Obj.mapFields (·.setIfInBounds 1 (Value.ref h1.objs.size)))).get? h1.objs.size=some otb:=by
  rw[Heap.get?_update_other _ _ (Ne.symm hTe)]
  exact Heap.get?_push_size h1 (by rw[← htb];rfl)
 have hdT:∃ ts:Array Value,otb.data=.fields ts/\3 < ts.size:=⟨_,by rw[← htb],by simp only[List.size_toArray,List.length_append,List.length_cons,List.length_nil];omega⟩
 obtain⟨ts,hdT,h3⟩:=hdT
 unfold setFlight
 refine wpAny_bind (wpAny_field he3 hd3 (x:=.ref h1.objs.size) (by simp[hsz]) ?_)
 rw[if_pos (show(Value.ref h1.objs.size != Value.none)=true from by simp)]
 refine wpAny_setField hT3 hdT h3 (h _ h1.objs.size ?_)
 have hd4:=Obj.data_mapFields hdT (·.setIfInBounds 3 ((none:Option Addr).elim Value.none fun f=>rawInt f))
 have kp:∀ b o,b≠e->h1.get? b=some o->(((h1.push otb).update e (Obj.mapFields (·.setIfInBounds 1 (Value.ref h1.objs.size)))).update h1.objs.size (Obj.mapFields (·.setIfInBounds 3 ((none:Option Addr).elim Value.none fun f=>rawInt f)))).get? b=some o:=fun b o hbe hb=>by
  have hbT:h1.objs.size≠b:=Nat.ne_of_gt (Heap.lt_size hb)
  rw[Heap.get?_update_other _ _ hbT,Heap.get?_update_other _ _ (Ne.symm hbe)]
  exact Heap.get?_push_of_some _ hb
 have ex:(((h1.push otb).update e (Obj.mapFields (·.setIfInBounds 1 (Value.ref h1.objs.size)))).update h1.objs.size (Obj.mapFields (·.setIfInBounds 3 ((none:Option Addr).elim Value.none fun f=>rawInt f)))).get? e=some (oe.mapFields (·.setIfInBounds 1 (Value.ref h1.objs.size))):=by
  rw[Heap.get?_update_other _ _ hTe]
  exact he3
 refine⟨fun b o hbe _ hbf hb=>kp b o hbe ((hs1.2.1 b hbf).trans hb),fun b o hbe _ hb=>?_,fun b o hb=>?_,ex,?_,?_⟩
 ·obtain⟨sl,q⟩:=hs1.2.2 b o hb
  exact⟨sl,kp b _ hbe q⟩
 ·by_cases z:b=e
  ·exact⟨_,by rw[z];exact ex⟩
  ·obtain⟨sl,q⟩:=hs1.2.2 b o hb
   exact⟨_,kp b _ z q⟩
 ·show s.heap.objs.size<=h1.objs.size
  rw[hs1.1];exact Nat.le_refl _
 ·refine⟨_,_,Heap.get?_update_self _ hT3 (Obj.isFreed_of_fields hd4),hd4,?_⟩
  simp[h3]
theorem aU7{base:Heap}{env:Env}{outer:List Env}{L e:Addr}{oe:Obj}{vs:Array Value}{Q:Unit->Shared->Prop}
  (hfr:A.frames=some (env::outer)) (hl:s.heap.FunFrames base (env::outer)) (hf:env.frame=some L) (he:s.heap.get? e=some oe) (hd:oe.data=.fields vs)
  (h1:vs[1]? = some .none\/∃ T oT ts,vs[1]? = some (.ref T)/\T≠e/\s.heap.get? T=some oT/\oT.data=.fields ts/\ts[3]? = some .none)
  (h:∀ (h':Heap) (T:Addr),Noted ((env::outer).filterMap (·.frame)) e T oe (fun b=>vs[1]? = some (.ref b)) s.heap h'->Q () {s with heap:=h'}) :
  wpAny M A (noteFrame (.ref e) env) (fun _ s'=>wpAny M A (setFlight (.ref e) none) Q E s') E s:=by
 have hsz:1 < vs.size:=by
  rcases h1 with q | ⟨_,_,_,q,_⟩<;>exact(Array.getElem?_eq_some_iff.mp q).1
 unfold noteFrame
 simp only[hf]
 rcases h1 with h1 | ⟨T,oT,ts,h1,hTe,hT,hdT,h3⟩
 ·refine wpAny_bind (wpAny_field he hd h1 ?_)
  rw[if_neg (by decide)]
  exact aJ2 hfr hl hf he hd hsz fun h' T n=>h h' T ⟨fun b o x _ y z=>n.keep b o x (fun q=>q) y z,fun b o x _ z=>n.slot b o x (fun q=>q) z,n.there,n.exc,n.new,n.tb⟩
 ·refine wpAny_bind (wpAny_field he hd h1 ?_)
  rw[if_pos (show(Value.ref T != Value.none)=true from by simp)]
  refine wpAny_bind (wpAny_field hT hdT h3 ?_)
  rw[if_neg (show ¬ ((Value.none==rawInt L)=true)from by simp[rawInt])]
  refine wpAny_bind (wpAny_setField hT hdT (Array.getElem?_eq_some_iff.mp h3).1 ?_)
  have hd4:=Obj.data_mapFields hdT (·.setIfInBounds 3 Value.none)
  have self:=Heap.get?_update_self (Obj.mapFields (·.setIfInBounds 3 Value.none)) hT (Obj.isFreed_of_fields hd4)
  have oth:∀ b,b≠T->(s.heap.update T (Obj.mapFields (·.setIfInBounds 3 Value.none))).get? b=s.heap.get? b:=fun b hb=>Heap.get?_update_other _ _ (Ne.symm hb)
  have nrec:∀ b o,s.heap.get? b=some o->(∀ vs,o.data≠.fields vs)->b≠T:=fun b o hb hnf q=>by
   rw[q,hT]at hb
   cases hb
   exact hnf ts hdT
  refine aJ2 (s:={s with heap:=s.heap.update T (Obj.mapFields (·.setIfInBounds 3 Value.none))}) hfr (hl.of_keeps fun b o hb hnf=>⟨o,(oth b (nrec b o hb hnf)).trans hb,rfl⟩) hf ((oth e (Ne.symm hTe)).trans he) hd hsz fun h' T' n=>h h' T' ⟨fun b o x y z q=>?_,fun b o x y q=>?_,fun b o q=>?_,n.exc,?_,n.tb⟩
  ·have bT:b≠T:=fun w=>y (by rw[w];exact h1)
   exact n.keep b o x (fun q=>q) z ((oth b bT).trans q)
  ·have bT:b≠T:=fun w=>y (by rw[w];exact h1)
   exact n.slot b o x (fun q=>q) ((oth b bT).trans q)
  ·by_cases bT:b=T
   ·rw[bT];exact n.there T _ self
   ·exact n.there b o ((oth b bT).trans q)
  ·have:=n.new
   rw[Heap.size_after_update]at this
   exact this
end
end L2
namespace L2
open PySem PySem.Spec PyProof.Rows
def exo(e:Addr)(C:Value)(d:Option Addr)(tb:Value):HO:=.ext fun h=>∃ o vs,h.get? e=some o/\o.cls=C/\o.dict=d/\o.data=.fields vs/\5 < vs.size/\vs[1]? = some tb
section
variable{P:Program}{w:World}{H:Hp}{h:Heap}{e:Addr}{C:Value}{d:Option Addr}{tb:Value}
theorem aJ3{o:Obj}{vs:Array Value}(he:h.get? e=some o)(hc:o.cls=C)(hd:o.dict=d)(hf:o.data=.fields vs)(hs:5 < vs.size)(h1:vs[1]? = some tb):dM P w H h e (exo e C d tb):=
 ⟨⟨o,vs,he,hc,hd,hf,hs,h1⟩,⟨o,he⟩,fun h1 h2 ⟨o,vs,e1,r⟩ k=>⟨o,vs,k o e1,r⟩⟩
theorem cB6(x:dM P w H h e (exo e C d tb)):∃ o vs,h.get? e=some o/\o.cls=C/\o.dict=d/\o.data=.fields vs/\5 < vs.size/\vs[1]? = some tb:=x.1
end
def CXo(P:Program)(w:World):CXT:=fun outer H s E x s'=>∃ (e C:Addr) (d:Option Addr) (H':Hp) (T:Addr),
 x=.ref e/\s'.os=s.os/\AllBare s'.gens/\Un (frs outer) [] H H' s.heap s'.heap/\HOk P w H' s'.heap/\H' e=some (exo e (.ref C) d (.ref T))/\s.heap.objs.size<=T/\H' T=none/\T≠e /\
 (∃ oT ts,s'.heap.get? T=some oT/\oT.data=.fields ts/\ts[3]? = some .none)/\∀ T',E (.ref e) d (upd H' e (exo e (.ref C) d (.ref T')))
theorem mS{o:Obj}(f:Array Value->Array Value):(o.mapFields f).cls=o.cls:=Obj.cls_mapFields _ _
theorem lA{o:Obj}(f:Array Value->Array Value):(o.mapFields f).dict=o.dict:=by
 obtain⟨c,d,dt,sl⟩:=o
 cases dt<;>rfl
section
variable{X:Cx}{pins:List (Addr×Obj)}{σ:St}{H:Hp}{s:Shared}
theorem xW{e T:Addr}{oe:Obj}{vs:Array Value}{old:Addr->Prop}{h':Heap}{C:Value}{d:Option Addr}{tb:Value}(I:Inv X pins σ H s)(he:H e=some (exo e C d tb))(hoe:s.heap.get? e=some oe)(hc:oe.cls=C)(hdd:oe.dict=d)(hd:oe.data=.fields vs)(hs:5 < vs.size)
  (hold:∀ b,old b->H b=none) (n:Noted (frs X.stack) e T oe old s.heap h'):HOk X.prog X.w (upd H e (exo e C d (.ref T))) h':=fun b u q=>by
 by_cases hb:b=e
 ·subst hb
  rw[aG]at q
  cases q
  have hv1:(vs.setIfInBounds 1 (Value.ref T))[1]? = some (.ref T):=by
   have:1 < vs.size:=by omega
   simp[this]
  refine aJ3 n.exc ((mS _).trans hc) ((lA _).trans hdd) (Obj.data_mapFields hd _) (by simpa using hs) hv1
 ·rw[aF hb]at q
  have nown:∀ c y,H c=some (.own y)->c≠e:=fun c y r z=>by rw[z,he]at r;cases r
  refine(I.hok b u q).stay (fun c v hc' r=>?_) (fun c r=>by rw[aF (nown c b r)];exact r) fun c xs r=>by rw[aF (fun z=>by rw[z,he]at r;cases r)];exact r
  have ht:∃ o,H c=some o:=by
   rcases hc' with rfl | hc'
   ·exact⟨u,q⟩
   ·exact⟨_,hc'⟩
  obtain⟨o',ho'⟩:=ht
  have hce:c≠e:=by
   rcases hc' with rfl | hc'
   ·exact hb
   ·exact nown c b hc'
  refine n.keep c v hce (fun z=>?_) (fun z=>?_) r
  ·rw[hold c z]at ho';cases ho'
  ·rw[I.stkFree c z]at ho';cases ho'
theorem bT2{e T:Addr}{oe:Obj}{old:Addr->Prop}{h':Heap}{C:Value}{d:Option Addr}{tb:Value}(I:Inv X pins σ H s)(hex:X.ex=[])(hst:X.stack=X.env::X.outer)(hfr:X.env.frame=some X.env.locals)(he:H e=some (exo e C d tb))
  (hold:∀ b,old b->X.s₀.heap.objs.size<=b) (n:Noted (frs X.stack) e T oe old s.heap h'):Un X.fs [] X.H₀ (upd H e (exo e C d (.ref T))) X.s₀.heap h':=by
 have B:=I.base
 rw[hex]at B
 have nb:∀ b o,X.s₀.heap.get? b=some o->¬ old b:=fun b o q z=>absurd (Nat.lt_of_lt_of_le (Heap.lt_size q) (hold b z)) (Nat.lt_irrefl _)
 have ne:∀ b,H b=none->b≠e:=fun b q z=>by rw[z,he]at q;cases q
 have nl:∀ b o,X.s₀.heap.get? b=some o->b∉X.fs->b∉frs X.stack:=fun b o q hb z=>by
  rcases List.mem_cons.mp (I.stkSub b z)with r | r
  ·exact absurd (Nat.lt_of_lt_of_le (Heap.lt_size q) (by rw[r];exact I.ok.above)) (Nat.lt_irrefl _)
  ·exact hb r
 have tr:∀ b u,H b=some u->(∀ x,u≠.ext x)->(upd H e (exo e C d (.ref T))) b=some u:=fun b u q hx=>by
  rw[aF (fun z=>by rw[z,he]at q;exact hx _ (Option.some.inj q).symm)];exact q
 refine⟨fun b o q nH hb hx=>?_,fun b o q nH hb hx=>?_,fun b o q nH hx=>?_,fun b o q hx=>?_,fun b xs q=>tr b _ (B.tups b xs q) (fun x z=>nomatch z),fun b o u q=>tr b _ (B.frzs b o u q) (fun x z=>nomatch z),fun b ps q=>?_⟩
 ·exact n.keep b o (ne b (B.free b o q nH hx)) (nb b o q) (nl b o q hb) (B.keep b o q nH hb hx)
 ·obtain⟨sl,r⟩:=B.slot b o q nH hb hx
  obtain⟨sl',r'⟩:=n.slot b _ (ne b (B.free b o q nH hx)) (nb b o q) r
  exact⟨sl',r'⟩
 ·rw[aF (ne b (B.free b o q nH hx))];exact B.free b o q nH hx
 ·obtain⟨o',r⟩:=B.there b o q hx
  exact n.there b o' r
 ·obtain⟨more,r⟩:=B.tbls b ps q
  exact⟨more,tr b _ r (fun x z=>nomatch z)⟩
end
section
variable{P:Program}{w:World}{K:PySem.W.Frag}{mg:Str->Option Value}{base:Heap}{N:List Str}{qual:Str}{scope:Scope}{f:Addr}{cd:Value}{A:Around}{outer:List Env}{s:Shared}{H:Hp}{E:XK}
theorem aU8{pins:List (Addr×Obj)}{σ:St}{H1:Hp}{s1:Shared}{e C:Addr}{d:Option Addr}{tb:Value}(I:Inv (zJ (CXo P w) P w K mg base N qual scope f cd A outer s H E) pins σ H1 s1)
  (he:H1 e=some (exo e (.ref C) d tb)) (h1:tb=.none\/∃ T oT ts,tb=.ref T/\T≠e/\s1.heap.get? T=some oT/\oT.data=.fields ts/\ts[3]? = some .none)
  (hold:∀ b,tb=.ref b->s.heap.objs.size<=b/\H1 b=none) (hE:∀ T,E (.ref e) d (upd H1 e (exo e (.ref C) d (.ref T)))) :
  (zJ (CXo P w) P w K mg base N qual scope f cd A outer s H E).xe (.ref e) s1:=by
 obtain⟨oe,vs,hoe,hc,hdd,hd,hs,hv⟩:=cB6 (I.hok e _ he)
 show wpAny (model P w) (A.deeper (envOfC qual scope s.heap.objs.size f cd)) (leaving (envOfC qual scope s.heap.objs.size f cd) (.ref e)) _ _ s1
 unfold leaving
 have h1':vs[1]? = some .none\/∃ T oT ts,vs[1]? = some (.ref T)/\T≠e/\s1.heap.get? T=some oT/\oT.data=.fields ts/\ts[3]? = some .none:=by
  rcases h1 with rfl | ⟨T,oT,ts,rfl,r⟩
  ·exact .inl hv
  ·exact .inr ⟨T,oT,ts,hv,r⟩
 have hold':∀ b,vs[1]? = some (.ref b)->s.heap.objs.size<=b/\H1 b=none:=fun b z=>by
  rw[hv]at z
  exact hold b (Option.some.inj z)
 refine wpAny_bind (aU7 (L:=s.heap.objs.size) (base:=base) I.ok.frames I.stack rfl hoe hd h1' fun h' T n=>?_)
 have hT1:H1 T=none:=I.hok.fresh n.new
 have hTe:T≠e:=fun z=>by rw[z,he]at hT1;cases hT1
 refine⟨e,C,d,upd H1 e (exo e (.ref C) d (.ref T)),T,rfl,I.os,I.bare,bT2 I rfl rfl rfl he (fun b z=>(hold' b z).1) n,xW I he hoe hc hdd hd hs (fun b z=>(hold' b z).2) n,aG,Nat.le_trans I.sz n.new,by rw[aF hTe];exact hT1,hTe,?_,fun T'=>by rw[cE9];exact hE T'⟩
 obtain⟨oT,ts,t1,t2,t3⟩:=n.tb
 exact⟨oT,ts,t1,t2,t3⟩
theorem bT3{pins:List (Addr×Obj)}{σ:St}{H1:Hp}{s1:Shared}{e C:Addr}{d:Option Addr}(I:Inv (zJ (CXo P w) P w K mg base N qual scope f cd A outer s H E) pins σ H1 s1)
  (he:H1 e=some (exo e (.ref C) d .none)) (hE:∀ T,E (.ref e) d (upd H1 e (exo e (.ref C) d (.ref T)))):(zJ (CXo P w) P w K mg base N qual scope f cd A outer s H E).xe (.ref e) s1:=
 aU8 I he (.inl rfl) (fun b z=>nomatch z) hE
theorem Fun.okX{x:Str}{st:Stmt}{fd:FuncData}{ps:List Str}{k:Nat}{sp:Sp}(F:Fun K x qual st f fd)(S:FnScope N ps (aP st))(len:∀ vs H Q E,sp vs H Q E->vs.length=ps.length)
  (hbody:∀ (cdv:Value) (A:Around) (outer:List Env) (s:Shared) (H:Hp) (vs:List V) (Q:VK) (E:XK),Room k (A.deeper (envOfC qual (aP st) s.heap.objs.size f cdv))->sp vs H Q E ->
   ∃ t,PSs (zJ (CXo P w) P w K mg base N qual (aP st) f cdv A outer s H E) (jP st) t/\t {nx:=fun _ H'=>Q .non H',rt:=Q} (dJ N vs) H):FnOk P w K mg base (CXo P w) (k+1) f fd ps sp:=by
 obtain⟨oc,od,kV,doc,pm,an,cdv,ct,osl,rfl,lk,hcd⟩:=F.ex
 exact cT0 lk hcd S len fun A outer s H vs Q E hr hsp=>hbody cdv A outer s H vs Q E hr hsp
end
end L2
namespace PySem
abbrev dG0(dI:List Value):Obj:={cls:=.type "tuple",data:=.seq dI.toArray}
abbrev dJ4(C p:Addr):Obj:={cls:=.ref C,data:=.fields #[.ref p,.none,.none,.none,.bool false,.none]}
abbrev aU9(h:Heap)(C:Addr)(dI:List Value):Heap:=(h.push (dG0 dI)).push (dJ4 C h.objs.size)
theorem jW{h:Heap}{C b:Addr}{dI:List Value}{o:Obj}(e:h.get? b=some o):(aU9 h C dI).get? b=some o:=Heap.get?_push_of_some _ (Heap.get?_push_of_some _ e)
theorem xX{h:Heap}{C:Addr}{dI:List Value}:(aU9 h C dI).get? (h.objs.size+1)=some (dJ4 C h.objs.size):=by heap_get
theorem aO2{h:Heap}{C:Addr}{dI:List Value}:Heap.MadeExcOf h (aU9 h C dI) (h.objs.size+1) (.ref C) dI:=
 ⟨fun _ _ e=>jW e,Heap.get?_none_of_le (Nat.le_succ _),_,xX,Heap.get?_none_of_le (Nat.le_refl _),Heap.get?_push_of_some _ (Heap.get?_push_at rfl rfl)⟩
section
variable{prog:Program}{w:World}{E:Value->Shared->Prop}{A:Around}{os:OsState}{h:Heap}{t:Nat}{g:Array GenState}{d:Drawn}{dI:List Value}{fI:Addr}{oI:Obj}{mN:Str->Option Value}
 {nm q:Str} {B newId initId:String} {C N:Addr} {bs bm bmB sub:List Value} {hdct ab:Bool} {sn:List Str} {col:Option Bool} {dd:Option Addr} {k0 k1 k2 k3 k5:Option Value}
theorem mT{Q:Fin->Shared->Prop}(F:ExcBaseFacts B newId initId bmB)(T:OwnTail h bmB bm)(hC:h.get? C=some (excClassObj nm q C N bs bm hdct sn sub ab col dd k0 k1 k2 k3 k5 newId))(hn:h.Ns N mN)
  (hi:mN "__init__"=some (.ref fI)) (hfI:h.get? fI=some oI) (hfc:oI.cls=.type "function") (hq:∀ h' e,Heap.MadeExcOf h h' e (.ref C) dI->wpAny (model prog w) A (call (.ref fI) (.ref e::dI)) (fun r s'=>r=.none/\Q (.done (.ret (.ref e))) s') E ⟨h',g,d,t,os⟩)
  (hrest:dI.length<=sizeLine):wpAny (model prog w) A (Builtin.«type.__call__» ⟨.ref C::dI,[]⟩) Q E ⟨h,g,d,t,os⟩:=by
 have made:=hq _ _ (aO2 (h:=h) (C:=C) (dI:=dI))
 have cls:=jW (C:=C) (dI:=dI) hC
 have fn:=jW (C:=C) (dI:=dI) hfI
 have names:(aU9 h C dI).Ns N mN:=by obtain⟨o,es,ep,e,r⟩:=hn;exact⟨o,es,ep,jW e,r⟩
 have tail:=T.keeps (h':=aU9 h C dI) fun _ _ e=>jW e
 have own:(Value.ref C::bm).contains (.ref C)=true:=by simp
 repeat (first | (with_reducible refine wpAny_madeBy_exc hC ?_) | (with_reducible refine wpAny_loadPart_at hC ?_) | wp_step)
 refine codeAny_call_builtin_code (Code.quiet_builtin _ F.quiet) (wpAny_check_new_subT F T hC (codeAny_exc_new_subT F T hC ?_ hrest))
 show wpAny _ _ _ _ _ _;unfold isInstance
 repeat (first | (with_reducible refine wpAny_isSubtype_exc cls ?_;rw[own]) | (with_reducible refine wpAny_loadPart_at xX ?_) | wp_step)
 show wpAny _ _ (typeLookup (.ref C) _) _ _ _;refine wpAny_typeLookup_tail cls names tail F.mroIs F.init.lookup ?_
 rw[hi];refine wpAny_holding (wpAny_bind ?_);unfold bindSpecial
 refine wpAny_bind (wpAny_typeOf (T:="function") ⟨_,fn,hfc⟩ ?_);rw[if_pos (by decide)]
 refine wpAny_pure (wpAny_bind (wpAny_mono made (fun r s' hr=>?_) fun _ _ x=>x))
 obtain⟨rfl,z⟩:=hr;wp_walk;exact z
theorem vN{Q:Value->Shared->Prop}(F:ExcBaseFacts B newId initId bmB)(T:OwnTail h bmB bm)(hC:h.get? C=some (excClassObj nm q C N bs bm hdct sn sub ab col dd k0 k1 k2 k3 k5 newId))(hn:h.Ns N mN)
  (hi:mN "__init__"=some (.ref fI)) (hfI:h.get? fI=some oI) (hfc:oI.cls=.type "function") (hq:∀ h' e,Heap.MadeExcOf h h' e (.ref C) dI->wpAny (model prog w) (A.under (.builtin "type.__call__" ⟨.ref C::dI,[]⟩)) (call (.ref fI) (.ref e::dI)) (fun r s'=>r=.none/\Q (.ref e) s') E ⟨h',g,d,t,os⟩)
  (hrest:dI.length<=sizeLine):wpAny (model prog w) A (call (.ref C) dI) Q E ⟨h,g,d,t,os⟩:=by
 have bnd:=tc_bind (.ref C)
 have lkp:=tc_lookup
 have ty:(⟨h,g,d,t,os⟩:Shared).TypeIs (.ref C) "type":=⟨_,hC,rfl⟩
 refine wpAny_call (codeAny_of_tree (show wpAny _ _ (callAny (.ref C) _) _ _ _ from ?_))
 repeat (any_goals (first | (with_reducible refine wpAny_loadPart_at hC ?_) | assumption | wp_step))
 exact⟨rfl,codeAny_call_builtin_at (Code.quiet_builtin _ (by decide +kernel)) entry_typeCall (wpAny_check_type_call_sub hC (mT (hrest:=hrest) F T hC hn hi hfI hfc hq))⟩
end
end PySem
namespace L2
open PySem PySem.Spec PyProof.Rows
section
variable{P:Program}{w:World}{H:Hp}{h:Heap}{a:Addr}{o:HO}
theorem dM.there(x:dM P w H h a o):∃ ob,h.get? a=some ob:=by
 cases o with
 | lst xs=>obtain⟨_,_,_,_,e⟩:=x;exact⟨_,e⟩
 | tup xs=>obtain⟨_,_,_,⟨ob,e,_⟩,_⟩:=x;exact⟨ob,e⟩
 | dK kvs=>obtain⟨_,_,_,_,o,_,_,e,_⟩:=x;exact⟨_,e⟩
 | dT kvs=>obtain⟨_,_,_,_,o,_,_,e,_⟩:=x;exact⟨_,e⟩
 | set S n=>obtain⟨o,_,_,_,e,_⟩:=x;exact⟨_,e⟩
 | ins C dx fs=>obtain⟨_,_,_,e,_⟩:=x;exact⟨_,e⟩
 | own y=>exact x
 | xd fs=>obtain⟨_,⟨_,_,_,e,_⟩,_⟩:=x;exact⟨_,e⟩
 | rng lo hi=>obtain⟨_,_,_,e⟩:=x;exact⟨_,e⟩
 | frz ob u=>obtain⟨e,_⟩:=x;exact⟨_,e⟩
 | tbl ps=>exact⟨_,(show h.get? a=some _ from x)⟩
 | met f y=>exact⟨_,(show h.get? a=some _ from x)⟩
 | ext φ=>obtain⟨_,e,_⟩:=x;exact e
theorem HOk.none_of(x:HOk P w H h)(e:h.get? a=none):H a=none:=by
 cases q:H a with
 | none=>rfl
 | some u=>
   obtain⟨ob,r⟩:=(x a u q).there
   rw[e]at r;cases r
end
section
variable{X:Cx}{pins:List (Addr×Obj)}{σ:St}{H:Hp}{s:Shared}
theorem Inv.laidN{a:Addr}{o:HO}{h':Heap}{t':Nat}(I:Inv X pins σ H s)(k:∀ b u,s.heap.get? b=some u->h'.get? b=some u)(hp:s.heap.get? a=none)(new:dM X.prog X.w (upd H a o) h' a o):Inv X pins σ (upd H a o) {s with heap:=h',toks:=t'}:=by
 have hn:H a=none:=I.hok.none_of hp
 refine I.un ⟨fun b u q _ _ _=>k b u q,fun b u q _ _ _=>⟨u.slots,k b u q⟩,fun b u q n _=>by rw[aF (fun z=>by rw[z,hp]at q;cases q)];exact n,fun b u q _=>⟨u,k b u q⟩,
  fun b xs q=>by rw[aF (aE q hn)];exact q,fun b u xs q=>by rw[aF (aE q hn)];exact q,fun b ps q=>⟨#[],by rw[aF (aE q hn),q];simp⟩⟩ fun b u e=>?_
 by_cases hb:b=a
 ·subst hb;rw[aG]at e;cases e;exact new
 ·rw[aF hb]at e
  exact(I.hok b u e).stay (fun c v _ q=>k c v q) (fun c q=>by rw[aF (aE q hn)];exact q) fun c xs q=>by rw[aF (aE q hn)];exact q
end
def xY(K:PySem.W.Frag)(C f:Addr)(bmB:List Value)(newId:String):Bool:=match K.lookup C with
 | some ⟨.type "type",_,.cls c,l⟩=>match c.mro,l.toList with
   | .ref D::r,[_,_,_,_,some (.builtin n),_]=>D==C&&n==newId && !c.hasDel&&PySem.W.tailIn K bmB r&&PySem.W.nsOkIn K c.ns&&PySem.W.nsIn K c.ns "__init__"==some (some (.ref f))
   | _,_=>false
 | _=>false
theorem aO3{K:PySem.W.Frag}{h:Heap}{N:Addr}{m:Str->Option Value}{n:Str}{v:Value}(X:K.In h)(G:h.Ns N m)(e:PySem.W.nsIn K N n=some (some v)):m n=some v:=by
 obtain⟨o,es,ep,ho,hd,_,hf⟩:=G
 unfold PySem.W.nsIn at e
 split at e
 ·rename_i q
  have:=X _ _ q
  rw[ho]at this
  cases this
  cases hd
  split at e
  ·rename_i he
   cases e
   rw[← hf]
   unfold nsFind findBy
   rw[← Array.find?_toList,he]
   rfl
  ·split at e<;>cases e
 ·cases e
theorem zW{K:PySem.W.Frag}{h:Heap}{C f:Addr}{bmB:List Value}{newId:String}(X:K.In h)(q:xY K C f bmB newId=true) :
  ∃ bm N nm qn bs hdct sn sub ab col dd k0 k1 k2 k3 k5 mN,h.get? C=some (excClassObj nm qn C N bs bm hdct sn sub ab col dd k0 k1 k2 k3 k5 newId)/\h.Ns N mN/\mN "__init__"=some (.ref f)/\OwnTail h bmB bm:=by
 unfold xY at q
 split at q
 ·rename_i dd cd sl ho
  split at q
  ·rename_i D bm k0 k1 k2 k3 n k5 hm hs
   simp only[Bool.and_eq_true,beq_iff_eq,Bool.not_eq_true']at q
   obtain⟨⟨⟨⟨⟨q1,q2⟩,hdel⟩,ht⟩,hok⟩,hni⟩:=q
   subst q1
   subst q2
   obtain⟨nm,bs,mro,ns,qn,hd,sn,sub,ab,col,del⟩:=cd
   dsimp only at hm hdel hok hni
   subst hm
   subst hdel
   have hsl:sl=#[k0,k1,k2,k3,some (.builtin n),k5]:=by
    obtain⟨l⟩:=sl
    simp only at hs
    rw[hs]
   subst hsl
   have G:=PySem.Heap.Ns.of_isNs (PySem.W.isNs_of_in X hok)
   exact⟨bm,ns,nm,qn,bs,hd,sn,sub,ab,col,dd,k0,k1,k2,k3,k5,_,X _ _ ho,G,aO3 X G hni,PySem.W.tail_of_in X ht⟩
  ·cases q
 ·cases q
section
variable{X:Cx}{CX:CXT}{k:Nat}{f C:Addr}{fd:FuncData}{ps:List Str}{sp:Sp}{E:XK}{x:Str}{p pos:Pos}{e:Expr}{es:List Expr}{t:TA}{B newId initId:String}{bmB:List Value}
theorem cI6{pins:List (Addr×Obj)}{σ:St}{H:Hp}{s:Shared}{Q:VK}{us:List Value}{vs:List V}(M:xY X.K C f bmB newId=true)(hfn:PySem.W.isFn X.K (.ref f)=true)(FB:ExcBaseFacts B newId initId bmB)(F:FnOk X.prog X.w X.K X.mg X.base CX k f fd ps sp)(hr:Room (k+1) X.A)(hb:dR X.K fd ps [])
  (hx:xJ CX X E) (I:Inv X pins σ H s) (r:cF vs us) (hz:vs.length<=1000) (h:∀ a,H a=none->sp (.ref a::vs) (upd H a (exo a (.ref C) none .none)) (fun v H2=>v=.non/\Q (.ref a) H2) E) :
  wpAny (model X.prog X.w) X.A (call (.ref C) us) (EP X pins σ Q) X.xe s:=by
 obtain⟨bm,N,nm,qn,bs,hdct,sn,sub,ab,col,dd,k0,k1,k2,k3,k5,mN,hC,hN,hi,T⟩:=zW I.kIn M
 obtain⟨oI,hoI,hcI⟩:∃ oI,s.heap.get? f=some oI/\oI.cls=.type "function":=by
  have q:=beq_iff_eq.mp hfn
  unfold PySem.W.typeIn at q
  obtain⟨oI,a,b⟩:=Option.map_eq_some_iff.mp q
  exact⟨oI,I.kIn _ _ a,b⟩
 have hl:us.length=vs.length:=r.length.symm
 obtain⟨hh,g,d,tk,os⟩:=s
 refine vN FB T hC hN hi hoI hcI (fun h' a hm=>?_) (by rw[hl];exact Nat.le_trans hz (by decide))
 obtain⟨tp,hta,htn,htt⟩:=hm.there
 have hn:H a=none:=I.hok.none_of hm.new
 have I2:Inv X pins σ (upd H a (exo a (.ref C) none .none)) ⟨h',g,d,tk,os⟩:=I.laidN (t':=tk) hm.keeps hm.new (aJ3 hta rfl rfl rfl (by show 5 < 6;decide) rfl)
 have hq:=h a hn
 have r2:cF (V.ref a::vs) (Value.ref a::us):=.cons rfl r
 have hlen:(Value.ref a::us++[]).length=ps.length:=by
  have e:=r2.length
  rw[F.len _ _ _ _ hq]at e
  rw[List.append_nil];exact e.symm
 have hbb:=hb ⟨h',g,d,tk,os⟩ (Value.ref a::us) I2.kIn hlen
 rw[List.append_nil]at hbb
 refine wpAny_call (codeAny_mono (F.run _ X.stack _ _ ⟨Value.ref a::us,[]⟩ (Value.ref a::us) _ _ E (hr.make C us []) (I2.env0.make C us []) hbb r2 hq) fun r s' hq'=>?_)
 cases r with
 | error e=>exact hx pins σ _ _ e s' I2 hq'
 | ok fl=>
   cases fl with
   | ret u=>
     obtain⟨v,H',I3,rv,ev,q3⟩:=I2.after hq'
     subst ev
     exact⟨rv,⟨V.ref a,H',I3,rfl,q3⟩⟩
   | next=>exact False.elim hq'
   | brk=>exact False.elim hq'
   | cont=>exact False.elim hq'
def dG1(C:Addr)(sp:Sp)(E:XK)(t:TA):TE:=fun σ H Q=>t σ H fun vs H1=>vs.length<=1000/\∀ a,H1 a=none->sp (.ref a::vs) (upd H1 a (exo a (.ref C) none .none)) (fun v H2=>v=.non/\Q (.ref a) H2) E
theorem cB7(M:xY X.K C f bmB newId=true)(hfn:PySem.W.isFn X.K (.ref f)=true)(hkp:PySem.W.keepIn X.K (.ref C)=true)(FB:ExcBaseFacts B newId initId bmB)(F:FnOk X.prog X.w X.K X.mg X.base CX k f fd ps sp)(hr:Room (k+1) X.A)(hg:Gl X x)(hm:X.mg x=some (.ref C))(hb:dR X.K fd ps [])(hx:xJ CX X E)
  (ha:PA X (e::es) t) (hdb:(x==("__debug__":Str))=false:=by decide) (he:starEach (e::es) X.env=(false,eval e X.env)::starEach es X.env:=by rfl) (hpl:(backTo pos (starEach es X.env)).any (·.1)=false:=by rfl) :
  PE X (.Call (.Name x p) (e::es) [] pos) (dG1 C sp E t):=by
 intro pins s σ H Q I h
 refine wpAny_Call_Name_kw (qQ I hg hm ?_ hdb)
 refine PySem.W.callWith_K (h₀:=X.base) I.ok.mod.kin hkp (thn (ha pos pins s σ H _ I h) fun us s1 ⟨vs,H1,I1,r,q⟩=>⟨I1.kIn,?_⟩) he hpl
 exact cI6 M hfn FB F hr hb hx I1 r q.1 q.2
end
end L2
namespace L2
open PySem
section
variable{M:Model}{A:Around}{E:Value->Shared->Prop}{env:Env}
variable{nm q:Str}{C N:Addr}{bs bm:List Value}{hdct:Bool}{sn:List Str}{sub:List Value}{ab:Bool}{col:Option Bool}{dd:Option Addr}{k0 k1 k2 k3 k5:Option Value}{newId:String}
end
end L2
namespace L2
open PySem PyProof.Rows
section
variable{prog:Program}{w:World}{A:Around}{E:Value->Shared->Prop}{h:Heap}{g:Array GenState}{d:Drawn}{t:Nat}{os:OsState}
variable{nm q:Str}{C N:Addr}{bs bm bmB:List Value}{hdct:Bool}{sn:List Str}{sub:List Value}{ab:Bool}{col:Option Bool}{dd:Option Addr}{k0 k1 k2 k3 k5:Option Value}{B newId initId:String}
theorem cI7(F:ExcBaseFacts B newId initId bmB)(T:OwnTail h bmB bm){e:Addr}{oe:Obj}{vs:Array Value}{dI:List Value}{Q:Value->Shared->Prop}
  (hC:h.get? C=some (excClassObj nm q C N bs bm hdct sn sub ab col dd k0 k1 k2 k3 k5 newId)) (he:h.get? e=some oe) (hcls:oe.cls=.ref C) (hd:oe.data=.fields vs) (hs:0 < vs.size)
  (hq:Q .none ⟨(h.push {cls:=.type "tuple",data:=.seq dI.toArray}).update e (Obj.mapFields (·.setIfInBounds 0 (.ref h.objs.size))),g,d,t,os⟩) (hrest:dI.length<=sizeLine) :
  wpAny (model prog w) A (call (.builtin initId) (.ref e::dI)) Q E ⟨h,g,d,t,os⟩:=by
 refine wpAny_call (codeAny_call_builtin F.init.plain F.initEntry (wpAny_check_init_subT F T hC he hcls ?_))
 unfold Builtin.«BaseException.__init__»
 dsimp only
 rw[if_neg (by simp)]
 unfold newTuple Builtin.BaseException.bexcPut
 have h0:vs[0]? = some vs[0]:=Array.getElem?_eq_getElem hs
 have he1:=Heap.get?_push_of_some (h:=h) {cls:=.type "tuple",data:=.seq dI.toArray} he
 refine wpAny_bind (wpAny_newObj_type ?_ (by show dI.toArray.size<=sizeLine;rw[List.size_toArray];exact hrest))
 refine wpAny_bind (wpAny_bind (wpAny_field he1 hd h0 (wpAny_bind (wpAny_setField he1 hd hs ?_))))
 split
 ·refine wpAny_letGo ?_
  exact wpAny_pure hq
 ·refine wpAny_pure ?_
  exact wpAny_pure hq
end
end L2
namespace L2
open PySem PySem.W PySem.Spec PyProof.Rows PySem.Builtin PySem.Builtin.ObjectAttr
def mU(bmB:List Value):List Value->Bool
 | []=>bmB==[]
 | v::r=>(v::r)==bmB||(match v with | .ref _=>mU bmB r | _=>false)
theorem rC(self:Value){bmB:List Value}(hp:refuseLoop self "__setattr__" bmB=pure ()):∀ {l:List Value},mU bmB l=true->refuseLoop self "__setattr__" l=pure ()
 | [],e=>by rw[show([]:List Value)=bmB from(beq_iff_eq.mp e).symm];exact hp
 | v::r,e=>by
   unfold mU at e
   rcases Bool.or_eq_true_iff.mp e with q | q
   ·rw[beq_iff_eq.mp q];exact hp
   ·split at q
    ·rw[refuseLoop_ref];exact rC self hp q
    ·cases q
theorem aJ4{bmB:List Value}{T:String}(hp:bmB.contains (.type T)=true):∀ {l:List Value},mU bmB l=true->l.contains (.type T)=true
 | [],e=>by rw[show([]:List Value)=bmB from(beq_iff_eq.mp e).symm];exact hp
 | v::r,e=>by
   unfold mU at e
   rcases Bool.or_eq_true_iff.mp e with q | q
   ·rw[beq_iff_eq.mp q];exact hp
   ·split at q
    ·rw[List.contains_cons,aJ4 hp q,Bool.or_true]
    ·cases q
section
variable{prog:Program}{w:World}{A:Around}{E:Value->Shared->Prop}{s:Shared}{K:Frag}{x C:Addr}{ox:Obj}{name:Str}{v:Value}{cd:ClassData}{bmB:List Value}{B:String}{Q:Unit->Shared->Prop}{R:Result->Shared->Prop}
theorem cV4{tk:Tok}(X:K.In s.heap)(I:InstAt s.heap x ox C none)(hnf:∃ vs,ox.data=.fields vs)(hc:clsIn K C=some cd)(hr:mU bmB cd.mro=true)(SF:StoreFacts B bmB "object.__setattr__" "object")
  (hf:findIn K (.ref C) name=some none) (hh:cd.hasDict=true)
  (h:∀ h' dx tk,s.heap.objs.size<=dx->h'.get? x=some {ox with dict:=some dx}->h'.Ns1 dx (fun y=>if y=name then some v else none)->(∀ b o,b≠x->s.heap.get? b=some o->h'.get? b=some o)->R (.ok (.ret .none)) {s with heap:=h',toks:=tk}) :
  codeAny (model prog w) A (.call (.builtin "object.__setattr__") ⟨[.ref x,.str name tk,v],[]⟩) R s:=by
 have hmo:=aJ4 (T:="object") SF.hasOwner hr
 have ne:cd.mro.isEmpty=false:=by cases q:cd.mro with | nil=>rw[q]at hmo;cases hmo | cons _ _=>rfl
 have sub:Looks (model prog w) s.heap (isInstance (.ref x) (.type "object")) true:=I.type.andThen (looks_mroIn X (by unfold mroIn;rw[hc,Option.bind_some,if_neg (by rw[ne];decide),hmo]))
 have hm:Looks (model prog w) s.heap (mroOf (.ref C)) cd.mro:=(looks_clsIn X hc).andThen .now
 refine codeAny_call_builtin SF.slot.plain SF.entry (@check_slot (model prog w) _ _ s "object.__setattr__" "object" "__setattr__" (.ref x) [.str name tk,v] [] _ SF.kind SF.split sub (SF.args (.ref x) (.str name tk) v) ?_)
 rw[osa_eq,refuse_eq]
 refine wpAny_bind (wpAny_bind (I.type.here (wpAny_bind (hm.here ?_))))
 rw[rC _ (SF.passes (.ref x)) hr]
 refine wpAny_pure (wpAny_bind (I.type.here (wpAny_bind ((looks_findIn X hf).here (wpAny_bind ?_)))))
 refine wpAny_pure (a:=none) ?_
 dsimp only
 obtain⟨vs,hnf⟩:=hnf
 obtain⟨hx,hcl,hn,hdn⟩:=I
 obtain⟨oc,odi,oda,osl⟩:=ox
 dsimp only at hcl hdn hnf
 subst hcl
 subst hnf
 cases odi with
 | some dx=>exact hdn.elim
 | none=>
   refine wpAny_bind (wpAny_pure (wpAny_bind (wpAny_bind (wpAny_loadPart hx (wpAny_bind ((looks_clsIn X hc).here ?_))))))
   rw[hh]
   obtain⟨hp,g,d,t0,os⟩:=s
   dsimp only at hx h
   show wpAny (model prog w) A.in1 (do
    let d ← alloc {cls:=Value.type "dict",data:=Data.dict #[]}
    update x fun o=>{cls:=o.cls,dict:=some d,data:=o.data,slots:=o.slots}
    dictMade (Value.ref C) x d) _ _ _
   have hx1:(hp.push {cls:=.type "dict",data:=.dict #[]}).get? x=some {cls:=Value.ref C,data:=Data.fields vs,slots:=osl}:=Heap.get?_push_of_some _ hx
   have hxs:x≠hp.objs.size:=Nat.ne_of_lt (Heap.lt_size hx)
   refine wpAny_bind (wpAny_alloc' ?_)
   refine wpAny_bind (wpAny_update' hx1 ?_)
   refine wpAny_pure ?_
   have hgd:((hp.push {cls:=.type "dict",data:=.dict #[]}).update x fun o=>{cls:=o.cls,dict:=some hp.objs.size,data:=o.data,slots:=o.slots}).get? hp.objs.size=some {cls:=.type "dict",data:=.dict #[]}:=
    (Heap.get?_update_ne _ _ _ _ hxs.symm).trans (Heap.get?_push_at rfl rfl)
   have hnd:((hp.push {cls:=.type "dict",data:=.dict #[]}).update x fun o=>{cls:=o.cls,dict:=some hp.objs.size,data:=o.data,slots:=o.slots}).Ns hp.objs.size (fun _=>none):=⟨_,#[],_,hgd,rfl,fun e he=>absurd he (by simp),fun _=>rfl⟩
   show wpAny _ _ (storeInDict hp.objs.size (.str name tk) name v) _ _ _
   unfold storeInDict newKeyGuard
   refine wpAny_bind (wpAny_pure (wpAny_bind (wpAny_nsSet1 (Heap.Ns1.of_empty hnd) fun h' hn' hs=>?_)))
   obtain⟨oD,esD,epD,hoD,hdD,hcD⟩:=hn'.count (Within.cons name v Within.nil)
   refine wpAny_bind (wpAny_lookBehind hoD (by rw[hdD];exact pastItsLine_dict (Nat.le_trans hcD (by rw[List.length_cons,List.length_nil,sizeLine_eq];omega))) ?_)
   wp_walk
   refine h h' hp.objs.size _ (Nat.le_refl _) ?_ hn' fun b o hbx hb=>?_
   ·refine(hs.2 x hxs).trans (Heap.get?_update_self _ hx1 rfl)
   ·exact(hs.2 b (Nat.ne_of_lt (Heap.lt_size hb))).trans ((Heap.get?_update_ne _ _ _ _ hbx).trans (Heap.get?_push_of_some _ hb))
theorem bT4(X:K.In s.heap)(I:InstAt s.heap x ox C none)(hnf:∃ vs,ox.data=.fields vs)(hs:findIn K (.ref C) "__setattr__"=some (some (.builtin "object.__setattr__")))(hc:clsIn K C=some cd)(hr:mU bmB cd.mro=true)(SF:StoreFacts B bmB "object.__setattr__" "object")
  (hf:findIn K (.ref C) name=some none) (hh:cd.hasDict=true)
  (h:∀ h' dx tk,s.heap.objs.size<=dx->h'.get? x=some {ox with dict:=some dx}->h'.Ns1 dx (fun y=>if y=name then some v else none)->(∀ b o,b≠x->s.heap.get? b=some o->h'.get? b=some o)->Q () {s with heap:=h',toks:=tk}) :
  wpAny (model prog w) A (setAttr (.ref x) name v) Q E s:=set_plain X I hs (cV4 (s:={s with toks:=s.toks+1}) X I hnf hc hr SF hf hh h)
end
end L2
namespace L2
open PySem PySem.W PySem.Spec PyProof.Rows
section
variable{prog:Program}{w:World}{A:Around}{E:Value->Shared->Prop}{s:Shared}{K:Frag}{x C:Addr}{ox:Obj}{od:Option Obj}{name:Str}{expr:Bool}{v:Value}{Q:Value->Shared->Prop}{B:String}
theorem cI8(FA:ExcAttrFacts B)(X:K.In s.heap)(I:InstAt s.heap x ox C od)(hga:findIn K (.ref C) "__getattribute__"=some (some (.builtin "BaseException.__getattribute__")))(hgt:findIn K (.ref C) "__getattr__"=some none)(hsub:mroIn K C (.type "BaseException")=some true)
  (hf:findObj K C od name=some (.value v)) (hh:handedIn v=true) (h:Q v {s with toks:=s.toks+1}):wpAny (model prog w) A (getAttr (.ref x) name expr) Q E s:=by
 have hb:Looks (model prog w) s.heap (hookBefore (.ref C)) none:=looks_hook X (by rw[show onTheHeap (Value.ref C)=true from rfl,if_pos rfl];exact hgt)
 have hi:Looks (model prog w) s.heap (isInstance (.ref x) (.type "BaseException")) true:=I.type.andThen (looks_mroIn X hsub)
 have L3:=looks_find (M:=model prog w) X I hf
 refine wpAny_bind (wpAny_mkText (wpAny_holding (wpAny_bind (I.type _ _ _ _ (fun _ _ e=>e) (wpAny_bind (looks_findIn X hga _ _ _ _ (fun _ _ e=>e) ?_))))))
 dsimp only
 rw[show(onTheHeap (Value.ref C)&&Value.builtin "BaseException.__getattribute__"==Value.builtin "object.__getattribute__")=false from by rw[show(Value.builtin "BaseException.__getattribute__"==Value.builtin "object.__getattribute__")=false from by decide +kernel,Bool.and_false],if_neg (by decide)]
 refine wpAny_bind (hb _ _ _ _ (fun _ _ e=>e) (wpAny_bind (wpAny_attempt (wpAny_holding ?_))))
 unfold callGetattribute
 rw[show(expr&&onTheHeap (Value.builtin "BaseException.__getattribute__"))=false from Bool.and_false _,if_neg (by decide)]
 unfold boundAndCalled
 rw[FA.ga.bind]
 refine wpAny_bind (wpAny_pure ?_)
 show wpAny _ _ (call (.builtin "BaseException.__getattribute__") [.ref x,.str name s.toks]) _ _ _
 refine wpAny_call ?_
 refine codeAny_call_builtin FA.ga.plain F.entry_bexc_ga ?_
 refine @check_slot (model prog w) _ _ {s with toks:=s.toks+1} "BaseException.__getattribute__" "BaseException" "__getattribute__" (.ref x) [.str name s.toks] [] _ (by decide +kernel) (by decide +kernel) hi (F.args_bexc_ga _ _) ?_
 unfold Builtin.«object.__getattribute__»
 refine wpAny_bind (wpAny_pure ?_)
 refine wpAny_bind (wpAny_pure ?_)
 refine wpAny_bind (I.type _ _ _ _ (fun _ _ e=>e) (wpAny_bind (L3 _ _ _ _ (fun _ _ e=>e) ?_)))
 refine wpAny_pure ?_
 show wpAny _ _ (handedOut v) _ _ _
 rw[handedOut_of hh]
 exact wpAny_pure h
end
end L2
namespace L2
open PySem PySem.W PySem.Spec PyProof.Rows
section
variable{M:Model}{A:Around}{E:Value->Shared->Prop}{s:Shared}
theorem vO{f:Value->PUnit->Sem (ForInStep PUnit)}{Q:PUnit->Shared->Prop}:∀ {cs:List Value},(∀ c∈cs,∀ Q':ForInStep PUnit->Shared->Prop,Q' (.yield ⟨⟩) s->wpAny M A (f c ⟨⟩) Q' E s)->Q ⟨⟩ s->wpAny M A (forIn cs PUnit.unit f) Q E s
 | [],_,h=>wpAny_pure h
 | c::r,hf,h=>by
   rw[List.forIn_cons]
   exact wpAny_bind (hf c List.mem_cons_self _ (vO (fun d hd=>hf d (List.mem_cons_of_mem _ hd)) h))
theorem vP{f:Value->Option Bool×Unit->Sem (ForInStep (Option Bool×Unit))}{g:Value->Bool}{Q:Option Bool×Unit->Shared->Prop}:∀ {cs:List Value},(∀ c∈cs,∀ Q':ForInStep (Option Bool×Unit)->Shared->Prop,Q' (if g c then .done (some true,())else .yield (none,())) s->wpAny M A (f c (none,())) Q' E s) ->
  Q (if cs.any g then(some true,())else(none,())) s->wpAny M A (forIn cs (none,()) f) Q E s
 | [],_,h=>wpAny_pure h
 | c::r,hf,h=>by
   rw[List.forIn_cons]
   refine wpAny_bind (hf c List.mem_cons_self _ ?_)
   rw[List.any_cons]at h
   cases hg:g c with
   | true=>rw[hg]at h;exact wpAny_pure h
   | false=>rw[hg]at h;exact vP (fun d hd=>hf d (List.mem_cons_of_mem _ hd)) h
variable{K:Frag}{e C D:Addr}{oe:Obj}{Q:Bool->Shared->Prop}
def gU(K:Frag)(C:Addr)(c:Value):Option Bool:=if subIn K c (.type "BaseException")==some true then(match c with | .ref D=>if(clsIn K D).isSome then subIn K (.ref C) c else none | .type _=>subIn K (.ref C) c | _=>none)else none
theorem mV{c:Value}{b:Bool}(X:K.In s.heap)(h:gU K C c=some b):Looks M s.heap (isExcClass c) true/\Looks M s.heap (isSubtype (.ref C) c) b:=by
 unfold gU at h
 split at h
 ·rename_i q
  have q:=beq_iff_eq.mp q
  split at h
  ·split at h
   ·rename_i hc
    obtain⟨cd,hcd⟩:=Option.isSome_iff_exists.mp hc
    refine⟨?_,looks_subIn X h⟩
    unfold isExcClass
    refine Looks.andThen (a:=true) ?_ (looks_subIn X q)
    unfold clsIn at hcd
    split at hcd
    ·rename_i ho
     exact(Looks.ld (X _ _ ho)).andThen .now
    ·cases hcd
   ·cases h
  ·exact⟨(Looks.now).andThen (looks_subIn X q),looks_subIn X h⟩
  ·cases h
 ·cases h
theorem zX{b:Bool}(X:K.In s.heap)(he:s.heap.get? e=some oe)(hc:oe.cls=.ref C)(hT:typeIn K (.ref D)=some (.type "type"))(hb:gU K C (.ref D)=some b)(h:Q b s):wpAny M A (excMatches (.ref e) (.ref D)) Q E s:=by
 have f2:Looks M s.heap (isInstance (.ref D) (.type "tuple")) false:=(looks_typeIn X hT).andThen (Looks.of_pure (by rw[isSubtype_type];kernel_rfl))
 have t1:Looks M s.heap (typeOf (.ref e)) (.ref C):=hc ▸ (Looks.ld he).andThen .now
 have hg:∀ c∈[Value.ref D],gU K C c=some b:=fun c hc=>by rw[List.mem_singleton.mp hc];exact hb
 have h:Q ([Value.ref D].any fun _=>b) s:=by simpa using h
 generalize hcs:[Value.ref D]=cs at hg h
 generalize hgg:(fun _:Value=>b)=g at h
 have hg:∀ c∈cs,gU K C c=some (g c):=fun c hc=>by rw[← hgg];exact hg c hc
 unfold excMatches
 refine wpAny_bind (f2.here ?_)
 refine wpAny_bind (wpAny_pure ?_)
 rw[hcs]
 dsimp only
 refine wpAny_bind (vO (fun c hc Q' q=>?_) ?_)
 ·refine wpAny_bind ((mV X (hg c hc)).1.here ?_)
  rw[if_neg (by decide)]
  exact wpAny_pure q
 ·refine wpAny_bind (t1.here (wpAny_bind (vP (g:=g) (fun c hc Q' q=>?_) ?_)))
  ·refine wpAny_bind ((mV X (hg c hc)).2.here ?_)
   cases hgc:g c with
   | true=>rw[hgc]at q;exact wpAny_pure q
   | false=>rw[hgc]at q;exact wpAny_pure q
  ·cases hga:cs.any g with
   | true=>rw[hga]at h;exact wpAny_pure h
   | false=>rw[hga]at h;exact wpAny_pure h
theorem zY{t:Addr}{cs:List Value}{g:Value->Bool}(X:K.In s.heap)(he:s.heap.get? e=some oe)(hc:oe.cls=.ref C)(ht:∃ o n,s.heap.get? t=some o/\o.cls=.type "tuple"/\o.data=.seq cs.toArray n)(hg:∀ c∈cs,gU K C c=some (g c))(h:Q (cs.any g) s):wpAny M A (excMatches (.ref e) (.ref t)) Q E s:=by
 obtain⟨⟨oc,od,oda,sl⟩,n,ho,h1,h2⟩:=ht
 dsimp only at h1 h2
 subst h1
 subst h2
 have f2:Looks M s.heap (isInstance (.ref t) (.type "tuple")) true:=((Looks.ld ho).andThen .now:Looks M s.heap (typeOf (.ref t)) (.type "tuple")).andThen (Looks.of_pure (by rw[isSubtype_type];kernel_rfl))
 have t1:Looks M s.heap (typeOf (.ref e)) (.ref C):=hc ▸ (Looks.ld he).andThen .now
 unfold excMatches
 refine wpAny_bind (f2.here ?_)
 refine wpAny_bind (wpAny_bind (wpAny_load ho (wpAny_pure ?_)))
 refine wpAny_bind (wpAny_pure ?_)
 rw[show((some cs.toArray).getD #[]).toList=cs from by simp]
 dsimp only
 refine wpAny_bind (vO (fun c hc Q' q=>?_) ?_)
 ·refine wpAny_bind ((mV X (hg c hc)).1.here ?_)
  rw[if_neg (by decide)]
  exact wpAny_pure q
 ·refine wpAny_bind (t1.here (wpAny_bind (vP (g:=g) (fun c hc Q' q=>?_) ?_)))
  ·refine wpAny_bind ((mV X (hg c hc)).2.here ?_)
   cases hgc:g c with
   | true=>rw[hgc]at q;exact wpAny_pure q
   | false=>rw[hgc]at q;exact wpAny_pure q
  ·cases hga:cs.any g with
   | true=>rw[hga]at h;exact wpAny_pure h
   | false=>rw[hga]at h;exact wpAny_pure h
end
end L2
namespace L2
open PySem PySem.W PySem.Spec PyProof.Rows
section
variable{prog:Program}{w:World}{A:Around}{E:Value->Shared->Prop}{s:Shared}{K:Frag}{x C:Addr}{ox:Obj}{od:Option Obj}{B:String}
theorem cV5{Q:Option Value->Shared->Prop}(FA:ExcAttrFacts B)(X:K.In s.heap)(I:InstAt s.heap x ox C od)(hga:findIn K (.ref C) "__getattribute__"=some (some (.builtin "BaseException.__getattribute__")))(hgt:findIn K (.ref C) "__getattr__"=some none)(hsub:mroIn K C (.type "BaseException")=some true)
  (ha:findIn K (.ref C) "__class__"=some (some (.builtin "object.__class__"))) (hn:specialIn K (.builtin "object.__class__") "__get__"=some (some (.builtin "getset_descriptor.__get__"))) (htk:takesIn K (.builtin "object.__class__")=some true) (hm:mroIn K C (.type "object")=some true)
  (h:Q (some (.ref C)) {s with toks:=s.toks+1}):wpAny (model prog w) A (getAttr? (.ref x) "__class__") Q E s:=by
 have hb:Looks (model prog w) s.heap (hookBefore (.ref C)) none:=looks_hook X (by rw[show onTheHeap (Value.ref C)=true from rfl,if_pos rfl];exact hgt)
 have hi:Looks (model prog w) s.heap (isInstance (.ref x) (.type "BaseException")) true:=I.type.andThen (looks_mroIn X hsub)
 have hc:(clsIn K C).isSome=true:=by
  unfold mroIn at hm
  cases q:clsIn K C with
  | none=>rw[q]at hm;cases hm
  | some cd=>rfl
 have hf:findObj K C od "__class__"=some (.bind (.builtin "getset_descriptor.__get__") (.builtin "object.__class__")):=by
  obtain⟨cd,hc⟩:=Option.isSome_iff_exists.mp hc
  unfold findObj
  rw[hc,Option.bind_some,ha,Option.bind_some]
  dsimp only
  rw[hn,Option.bind_some]
  dsimp only
  rw[htk,Option.bind_some]
 have L3:=looks_find (M:=model prog w) X I hf
 unfold getAttr? getAttrBy?
 refine wpAny_bind (wpAny_mkText (wpAny_bind (wpAny_attempt ?_)))
 unfold getAttrBy
 refine wpAny_holding (wpAny_bind (I.type _ _ _ _ (fun _ _ e=>e) (wpAny_bind (looks_findIn X hga _ _ _ _ (fun _ _ e=>e) ?_))))
 dsimp only
 rw[show(onTheHeap (Value.ref C)&&Value.builtin "BaseException.__getattribute__"==Value.builtin "object.__getattribute__")=false from by rw[show(Value.builtin "BaseException.__getattribute__"==Value.builtin "object.__getattribute__")=false from by decide +kernel,Bool.and_false],if_neg (by decide)]
 unfold getAttrByItsOwn
 refine wpAny_bind (hb _ _ _ _ (fun _ _ e=>e) ?_)
 refine wpAny_bind (wpAny_attempt (wpAny_holding ?_))
 unfold callGetattribute
 rw[show(false&&onTheHeap (Value.builtin "BaseException.__getattribute__"))=false from rfl,if_neg (by decide)]
 unfold boundAndCalled
 rw[FA.ga.bind]
 refine wpAny_bind (wpAny_pure ?_)
 show wpAny _ _ (call (.builtin "BaseException.__getattribute__") [.ref x,.str "__class__" s.toks]) _ _ _
 refine wpAny_call ?_
 refine codeAny_call_builtin FA.ga.plain F.entry_bexc_ga ?_
 refine @check_slot (model prog w) _ _ {s with toks:=s.toks+1} "BaseException.__getattribute__" "BaseException" "__getattribute__" (.ref x) [.str "__class__" s.toks] [] _ (by decide +kernel) (by decide +kernel) hi (F.args_bexc_ga _ _) ?_
 unfold Builtin.«object.__getattribute__»
 refine wpAny_bind (wpAny_pure ?_)
 refine wpAny_bind (wpAny_pure ?_)
 refine wpAny_bind (I.type _ _ _ _ (fun _ _ e=>e) (wpAny_bind (L3 _ _ _ _ (fun _ _ e=>e) ?_)))
 dsimp only
 show wpAny _ _ (holding [Value.builtin "object.__class__"] (call (.builtin "getset_descriptor.__get__") [.builtin "object.__class__",.ref x,.ref C]) >>= ret) _ _ _
 refine wpAny_bind (wpAny_holding (wpAny_call (class_get (s:={s with toks:=s.toks+1}) X I hm ?_)))
 refine wpAny_pure ?_
 show wpAny _ _ (handedOut (.ref C)) _ _ _
 rw[handedOut_of rfl]
 exact wpAny_pure (wpAny_pure h)
theorem bT5(FA:ExcAttrFacts B)(hga:findIn K (.ref C) "__getattribute__"=some (some (.builtin "BaseException.__getattribute__")))(hgt:findIn K (.ref C) "__getattr__"=some none)(hsub:mroIn K C (.type "BaseException")=some true)
  (ha:findIn K (.ref C) "__class__"=some (some (.builtin "object.__class__"))) (hn:specialIn K (.builtin "object.__class__") "__get__"=some (some (.builtin "getset_descriptor.__get__"))) (htk:takesIn K (.builtin "object.__class__")=some true) (hm:mroIn K C (.type "object")=some true) :
  KitX K (.ref x) (.ref C) (fun h=>∃ ox od,InstAt h x ox C od):=by
 have hc:∃ cd,clsIn K C=some cd:=by
  unfold mroIn at hm
  cases q:clsIn K C with
  | none=>rw[q]at hm;cases hm
  | some cd=>exact⟨cd,rfl⟩
 obtain⟨cd,hc⟩:=hc
 have hl:∃ o,K.lookup C=some o/\∃ c,o.data=.cls c:=by
  unfold clsIn at hc
  split at hc
  ·rename_i ho;exact⟨_,ho,_,rfl⟩
  ·cases hc
 obtain⟨o,ho,c,hd⟩:=hl
 refine⟨fun _ _ _ ⟨_,_,I⟩=>I.type,fun _ _ X _=>?_,fun h tp dd its n sl X htp=>?_,fun X ⟨_,_,I⟩ k=>cV5 FA X I hga hgt hsub ha hn htk hm k⟩
 ·intro A' Q' E' s' k q
  unfold isType loadHead
  refine wpAny_bind (wpAny_loadPart (k _ _ (X _ _ ho)) ?_)
  rw[hd]
  exact wpAny_pure q
 ·refine Bool.eq_false_iff.mpr fun q=>?_
  have e:C=tp:=Value.ref.inj (beq_iff_eq.mp q)
  subst e
  have z:=(X _ _ ho).symm.trans htp
  cases z
  cases hd
end
end L2
namespace L2
open PySem PySem.Spec PyProof.Rows
def bmV:List Value:=[.type "ValueError",.type "Exception",.type "BaseException",.type "object"]
def xE(K:PySem.W.Frag)(C:Addr):Bool:=PySem.W.findIn K (.ref C) "__getattribute__"==some (some (.builtin "BaseException.__getattribute__"))&&PySem.W.findIn K (.ref C) "__getattr__"==some none &&
 PySem.W.findIn K (.ref C) "__setattr__"==some (some (.builtin "object.__setattr__"))&&PySem.W.mroIn K C (.type "BaseException")==some true&&PySem.W.mroIn K C (.type "object")==some true &&
 PySem.W.findIn K (.ref C) "__class__"==some (some (.builtin "object.__class__"))&&PySem.W.specialIn K (.builtin "object.__class__") "__get__"==some (some (.builtin "getset_descriptor.__get__"))&&PySem.W.takesIn K (.builtin "object.__class__")==some true &&
 (PySem.W.clsIn K C).any fun cd=>mU bmV cd.mro&&cd.hasDict
structure ExcC(K:PySem.W.Frag)(C:Addr):Prop where
 ga:PySem.W.findIn K (.ref C) "__getattribute__"=some (some (.builtin "BaseException.__getattribute__"))
 gt:PySem.W.findIn K (.ref C) "__getattr__"=some none
 sa:PySem.W.findIn K (.ref C) "__setattr__"=some (some (.builtin "object.__setattr__"))
 bx:PySem.W.mroIn K C (.type "BaseException")=some true
 ob:PySem.W.mroIn K C (.type "object")=some true
 cl:PySem.W.findIn K (.ref C) "__class__"=some (some (.builtin "object.__class__"))
 gn:PySem.W.specialIn K (.builtin "object.__class__") "__get__"=some (some (.builtin "getset_descriptor.__get__"))
 tk:PySem.W.takesIn K (.builtin "object.__class__")=some true
 cd:∃ cd,PySem.W.clsIn K C=some cd/\mU bmV cd.mro=true/\cd.hasDict=true
theorem ExcC.of{K:PySem.W.Frag}{C:Addr}(h:xE K C=true):ExcC K C:=by
 unfold xE at h
 simp only[Bool.and_eq_true,beq_iff_eq]at h
 obtain⟨⟨⟨⟨⟨⟨⟨⟨h1,h2⟩,h3⟩,h4⟩,h5⟩,h6⟩,h7⟩,h8⟩,h9⟩:=h
 obtain⟨cd,a,b⟩:=PySem.W.any_some h9
 rw[Bool.and_eq_true]at b
 exact⟨h1,h2,h3,h4,h5,h6,h7,h8,cd,a,b.1,b.2⟩
theorem iX{P:Program}{w:World}{H:Hp}{h:Heap}{e:Addr}{C:Value}{d:Option Addr}{tb:Value}(hok:HOk P w H h)(he:H e=some (exo e C d tb)):∃ o vs,h.get? e=some o/\o.cls=C/\o.dict=d/\o.data=.fields vs/\5 < vs.size/\vs[1]? = some tb:=cB6 (hok e _ he)
theorem xZ{P:Program}{w:World}{H:Hp}{h:Heap}{e C:Addr}{tb:Value}(hok:HOk P w H h)(he:H e=some (exo e (.ref C) none tb)):∃ oe vs,PySem.W.InstAt h e oe C none/\oe.dict=none/\oe.data=.fields vs/\5 < vs.size/\vs[1]? = some tb:=by
 obtain⟨o,vs,h1,h2,h3,h4,h5,h6⟩:=iX hok he
 exact⟨o,vs,⟨h1,h2,by unfold PySem.W.notCls;rw[h4],by rw[h3];trivial⟩,h3,h4,h5,h6⟩
theorem yA{P:Program}{w:World}{H:Hp}{h:Heap}{e C dx:Addr}{tb:Value}{fs:List (Str×V)}(hok:HOk P w H h)(he:H e=some (exo e (.ref C) (some dx) tb))(hx:H dx=some (.xd fs)) :
  ∃ oe od,PySem.W.InstAt h e oe C (some od)/\∀ f v,fs.lookup f=some v->∃ u,eG v u/\PySem.W.lookIn f od=some (some u):=by
 obtain⟨o,vs,h1,h2,h3,h4,_⟩:=iX hok he
 obtain⟨mA,⟨od,es,ep,k1,k2,k3,k4,k5⟩,hr⟩:=(show dM P w H h dx (.xd fs)from hok dx _ hx)
 refine⟨o,od,⟨h1,h2,by unfold PySem.W.notCls;rw[h4],by rw[h3];exact k1⟩,fun f v hv=>?_⟩
 have r:=hr f
 rw[hv]at r
 obtain⟨u,hu,ru⟩:∃ u,mA f=some u/\eG v u:=by
  cases q:mA f with
  | none=>rw[q]at r;exact r.elim
  | some u=>rw[q]at r;exact⟨u,rfl,r⟩
 refine⟨u,ru,?_⟩
 unfold PySem.W.lookIn
 rw[k2]
 dsimp only
 have q:=k5 f
 rw[hu]at q
 unfold nsFind findBy at q
 rw[← Array.find?_toList]at q
 cases z:es.toList.find? (fun x=>x.key.isStr f)with
 | none=>rw[z]at q;cases q
 | some en=>rw[z]at q;cases q;rfl
section
variable{X:Cx}{o e value:Expr}{to te tv:TE}{f:Str}{pos pos' apos:Pos}
def tAt(K:PySem.W.Frag)(te:TE)(f:Str):TE:=fun σ H Q=>te σ H fun v H1=>∃ (e C dx:Addr) (fs:List (Str×V)) (tb:Value) (y:V),v=.ref e/\H1 e=some (exo e (.ref C) (some dx) tb)/\H1 dx=some (.xd fs)/\xE K C=true/\PySem.W.findIn K (.ref C) f=some none/\fs.lookup f=some y/\((∃ i,y=.int i)\/∃ z,y=.str z)/\Q y H1
theorem dG2(K:PySem.W.Frag)(hK:X.K=K)(he:PE X e te)(hb:attributeBase e f X.env (eval e X.env)=eval e X.env:=by rfl):PE X (.Attribute e f pos) (tAt K te f):=by
 subst hK
 intro pins s σ H Q I h
 refine cG0 hb (thn (he pins s σ H _ I h) fun u s1 ⟨x,H1,I1,rx,e,C,dx,fs,tb,y,ex,he,hx,hc,hn,hl,hy,q⟩=>?_)
 subst ex
 obtain rfl:u=Value.ref e:=rx
 have EC:=ExcC.of hc
 obtain⟨oe,od,J,hlook⟩:=yA I1.hok he hx
 obtain⟨u,ru,hu⟩:=hlook f y hl
 obtain⟨cd,c1,c2,c3⟩:=EC.cd
 have hd:PySem.W.hasDictIn X.K C=true:=by unfold PySem.W.hasDictIn;rw[c1];exact c3
 refine cI8 PySem.F.attr_ValueError I1.kIn J EC.ga EC.gt EC.bx (PySem.W.findObj_own hd hn rfl hu) ?_ ⟨y,H1,I1.tok _,ru,q⟩
 rcases hy with⟨i,rfl⟩ | ⟨z,rfl⟩
 ·obtain⟨t,rfl⟩:=ru;rfl
 ·obtain⟨t,rfl⟩:=ru;rfl
def sAt(K:PySem.W.Frag)(to tv:TE)(f:Str):TS:=fun D σ H=>tv σ H fun y H1=>to σ H1 fun v H2=>∃ (e C:Addr) (tb:Value),v=.ref e/\H2 e=some (exo e (.ref C) none tb)/\xE K C=true/\PySem.W.findIn K (.ref C) f=some none /\
 ∀ dx,H2 dx=none->dx≠e->D.nx σ (upd (upd H2 e (exo e (.ref C) (some dx) tb)) dx (.xd [(f,y)]))
theorem cI9(K:PySem.W.Frag)(hK:X.K=K)(ho:PE X o to)(hv:PE X value tv)(hs:swapsWith value (some (.Attribute o f pos')) pos.line X.env=pure false:=by rfl):PS X (.Assign [.Attribute o f pos'] value pos) (sAt K to tv f):=by
 subst hK
 intro pins s σ H D I h
 refine plainObj_wpAny_Assign_Attribute (thn (hv pins s σ H _ I h) fun u s1 ⟨y,H1,I1,ry,q⟩=>thn (ho pins s1 σ H1 _ I1 q) fun ov s2 ⟨x,H2,I2,rx,e,C,tb,ex,he,hc,hn,q2⟩=>?_) hs
 subst ex
 obtain rfl:ov=Value.ref e:=rx
 have EC:=ExcC.of hc
 obtain⟨oe,vs,J,j1,j2,j3,j4⟩:=xZ I2.hok he
 obtain⟨cd,c1,c2,c3⟩:=EC.cd
 refine bT4 I2.kIn J ⟨vs,j2⟩ EC.sa c1 c2 PySem.F.store_ValueError hn c3 fun h' dx tk hdx hx' hns hkp=>?_
 have hde:dx≠e:=fun z=>by rw[z]at hdx;exact absurd (Nat.lt_of_lt_of_le (Heap.lt_size J.at_) hdx) (Nat.lt_irrefl _)
 have hd2:H2 dx=none:=I2.hok.fresh hdx
 have I3:Inv X pins σ (upd H2 e (exo e (.ref C) (some dx) tb)) {s2 with heap:=h',toks:=tk}:=
  I2.write (t':=tk) (o:=exo e (.ref C) (some dx) tb) (by rw[he];trivial) (.inl rfl) hkp ⟨_,hx'⟩ (aJ3 hx' J.cls rfl j2 j3 j4)
 have I4:Inv X pins σ (upd (upd H2 e (exo e (.ref C) (some dx) tb)) dx (.xd [(f,y)])) {s2 with heap:=h',toks:=tk}:=by
  have lt:∀ {b:Addr} {o:Obj},s2.heap.get? b=some o->b≠dx:=fun q=>Nat.ne_of_lt (Nat.lt_of_lt_of_le (Heap.lt_size q) hdx)
  refine I3.adopt (by rw[aF hde];exact hd2) (Nat.le_trans I2.sz hdx) (Nat.ne_of_gt (Nat.lt_of_lt_of_le I2.lt hdx)) (fun x c q=>?_) (fun p hp=>lt (I2.pin p hp).1) ⟨_,hns,fun g=>?_⟩
  ·obtain⟨v,o,ho,_⟩:=I2.cell x c q
   exact lt ho
  ·by_cases z:g=f
   ·subst z
    simp only[List.lookup,beq_self_eq_true,if_true]
    exact ry
   ·have zb:(g==f)=false:=by simpa using z
    simp only[List.lookup,zb,if_neg z]
    trivial
 exact⟨σ,_,I4,q2 dx hd2 hde⟩
end
end L2
namespace L2
open PySem PySem.Spec PyProof.Rows
def vQ(h:Heap)(C:Addr):Prop:=∃ bm N nm qn bs hdct sn sub ab col dd k0 k1 k2 k3 k5 newId,h.get? C=some (excClassObj nm qn C N bs bm hdct sn sub ab col dd k0 k1 k2 k3 k5 newId)/\bm.contains (.type "BaseException")=true
theorem aV0{K:PySem.W.Frag}{h:Heap}{C f:Addr}{newId:String}(X:K.In h)(q:xY K C f bmV newId=true):vQ h C:=by
 obtain⟨bm,N,nm,qn,bs,hdct,sn,sub,ab,col,dd,k0,k1,k2,k3,k5,mN,hC,_,_,T⟩:=zW X q
 exact⟨bm,N,nm,qn,bs,hdct,sn,sub,ab,col,dd,k0,k1,k2,k3,k5,newId,hC,T.hasType (by decide +kernel)⟩
theorem cJ0{K:PySem.W.Frag}{h:Heap}{C:Addr}{bmB:List Value}{newId:String}(X:K.In h)(q:PySem.W.excIn K C bmB newId=true) :
  ∃ bm N nm qn bs hdct sn sub ab col dd k0 k1 k2 k3 k5 mN,h.get? C=some (excClassObj nm qn C N bs bm hdct sn sub ab col dd k0 k1 k2 k3 k5 newId)/\h.Ns N mN/\mN "__init__"=none/\OwnTail h bmB bm:=by
 unfold PySem.W.excIn at q
 split at q
 ·rename_i dd cd sl ho
  split at q
  ·rename_i D bm k0 k1 k2 k3 n k5 hm hs
   simp only[Bool.and_eq_true,beq_iff_eq,Bool.not_eq_true']at q
   obtain⟨⟨⟨⟨⟨q1,q2⟩,hdel⟩,ht⟩,hok⟩,hni⟩:=q
   subst q1
   subst q2
   obtain⟨nm,bs,mro,ns,qn,hd,sn,sub,ab,col,del⟩:=cd
   dsimp only at hm hdel hok hni
   subst hm
   subst hdel
   have hsl:sl=#[k0,k1,k2,k3,some (.builtin n),k5]:=by
    obtain⟨l⟩:=sl
    simp only at hs
    rw[hs]
   subst hsl
   exact⟨bm,ns,nm,qn,bs,hd,sn,sub,ab,col,dd,k0,k1,k2,k3,k5,_,X _ _ ho,.of_isNs (PySem.W.isNs_of_in X hok),PySem.W.nsMap_none_of_in X hok hni,PySem.W.tail_of_in X ht⟩
  ·cases q
 ·cases q
def exR(K:PySem.W.Frag)(C:Addr):Prop:=(∃ fI,xY K C fI bmV "ValueError.__new__"=true)\/PySem.W.excIn K C bmV "ValueError.__new__"=true
theorem aO4{K:PySem.W.Frag}{h:Heap}{C:Addr}(X:K.In h)(q:exR K C):vQ h C:=by
 rcases q with⟨f,q⟩ | q
 ·exact aV0 X q
 ·obtain⟨bm,N,nm,qn,bs,hdct,sn,sub,ab,col,dd,k0,k1,k2,k3,k5,mN,hC,_,_,T⟩:=cJ0 X q
  exact⟨bm,N,nm,qn,bs,hdct,sn,sub,ab,col,dd,k0,k1,k2,k3,k5,_,hC,T.hasType (by decide +kernel)⟩
theorem yB{M:Model}{A:Around}{E:Value->Shared->Prop}{env:Env}{s:Shared}{x:Sem Value}{Q:Flow->Shared->Prop}(hh:A.handled=none)
  (h:wpAny M A x (fun v s1=>∃ (e C:Addr) (oe:Obj) (vs:Array Value),v=.ref e/\vQ s1.heap C/\s1.heap.get? e=some oe/\oe.cls=.ref C/\oe.data=.fields vs/\vs[1]? = some .none/\E (.ref e) s1) E s):wpAny M A (raiseStmt env (some x) none) Q E s:=by
 unfold raiseStmt
 refine wpAny_bind (wpAny_mono h (fun v s1 h1=>?_) fun _ _ x=>x)
 obtain⟨e,C,oe,vs,rfl,⟨bm,N,nm,qn,bs,hdct,sn,sub,ab,col,dd,k0,k1,k2,k3,k5,newId,hC,hbase⟩,he,hcls,hd,hv1,hE⟩:=h1
 obtain⟨hp,g,d,tk,os⟩:=s1
 have hcB:(Value.ref C::bm).contains (.type "BaseException")=true:=by rw[List.contains_cons,hbase,Bool.or_true]
 repeat (first | (with_reducible refine wpAny_loadPart_at he ?_;rw[hcls]) | with_reducible refine wpAny_loadPart_at hC ?_ | (with_reducible refine wpAny_isSubtype_exc hC ?_;rw[hcB]) | with_reducible refine wpAny_field he hd hv1 ?_ | wp_step)
 exact wpAny_raiseNew_none hh hE
section
variable{P:Program}{w:World}{K:PySem.W.Frag}{mg:Str->Option Value}{base:Heap}{N:List Str}{qual:Str}{scope:Scope}{f:Addr}{cd:Value}{A:Around}{outer:List Env}{s:Shared}{H:Hp}{E:XK}{x:Expr}{te:TE}{pos:Pos}
def aV1(K:PySem.W.Frag)(E:XK)(te:TE):TS:=fun D σ H=>te σ H fun v H1=>∃ (e C:Addr) (d:Option Addr),v=.ref e/\H1 e=some (exo e (.ref C) d .none)/\exR K C/\∀ T,E (.ref e) d (upd H1 e (exo e (.ref C) d (.ref T)))
theorem aJ5(hx:PE (zJ (CXo P w) P w K mg base N qual scope f cd A outer s H E) x te):PS (zJ (CXo P w) P w K mg base N qual scope f cd A outer s H E) (.Raise (some x) none pos) (aV1 K E te):=by
 intro pins s0 σ H0 D I h
 rw[arm_exec_Raise]
 refine wpAny_bind (wpAny_standAt ?_)
 show wpAny _ _ (raiseStmt _ (some (do let v ← eval x _;standAt pos;pure v)) none) _ _ _
 refine yB (I.ok.hd rfl) (wpAny_bind (thn (hx pins s0 σ H0 _ I h) fun u s1 ⟨v,H1,I1,rv,e,C,d,ev,he,hc,hE⟩=>wpAny_bind (wpAny_standAt (wpAny_pure ?_))))
 subst ev
 obtain rfl:u=Value.ref e:=rv
 obtain⟨oe,vs,a1,a2,a3,a4,a5,a6⟩:=iX I1.hok he
 exact⟨e,C,oe,vs,rfl,aO4 I1.kIn hc,a1,a2,a4,a6,bT3 I1 he hE⟩
end
section
variable{X:Cx}{C:Addr}{x:Str}{p pos:Pos}{e:Expr}{es:List Expr}{t:TA}
def dG3(C:Addr)(t:TA):TE:=fun σ H Q=>t σ H fun vs H1=>vs.length<=1000/\∀ a,H1 a=none->Q (.ref a) (upd H1 a (exo a (.ref C) none .none))
end
section
variable{X:Cx}{R:Str}{CR:Addr}{rp apos pos:Pos}{a:Expr}{as:List Expr}{t:TA}
def vR(K:PySem.W.Frag)(CR:Addr):Bool:=PySem.W.specialIn K (.ref CR) "__getattribute__"==some (some (.builtin "type.__getattribute__"))&&PySem.W.readsIn K CR (.type "type") &&
 (match PySem.W.findCls K (.ref CR) (.type "type") "__init__" with | some (.val (.builtin i))=>i=="ValueError.__init__" | _=>false)
def cV6(K:PySem.W.Frag)(t:TA):TE:=fun σ H Q=>t σ H fun vs H1=>∃ (e C fI:Addr) (tb:Value) (z:Str),vs=[.ref e,.str z]/\H1 e=some (exo e (.ref C) none tb)/\xY K C fI bmV "ValueError.__new__"=true/\Q .non H1
theorem vS(K:PySem.W.Frag)(hK:X.K=K)(hB:vR K CR=true)(hg:Gl X R)(hm:X.mg R=some (.ref CR))(ha:PA X (a::as) t)(hdb:(R==("__debug__":Str))=false:=by decide)
  (hst:starEach (a::as) X.env=(false,eval a X.env)::starEach as X.env:=by rfl) (hpl:(backTo pos (starEach as X.env)).any (·.1)=false:=by rfl) {pl:Sem Bool}
  (ht:eval (.Call (.Attribute (.Name R rp) "__init__" apos) (a::as) [] pos) X.env=(do
   let ov ← eval (.Name R rp) X.env
   standAt apos.atName
   let (f,first) ← holding [ov] (getMethod ov "__init__" pl)
   callWith pos f first (backTo pos (starEach (a::as) X.env)) (backToKw pos (keywordEach [] X.env))):=by rfl) :
  PE X (.Call (.Attribute (.Name R rp) "__init__" apos) (a::as) [] pos) (cV6 K t):=by
 subst hK
 intro pins s σ H Q I h
 unfold vR at hB
 simp only[Bool.and_eq_true,beq_iff_eq]at hB
 obtain⟨⟨b1,b2⟩,b3⟩:=hB
 have b4:PySem.W.findCls X.K (.ref CR) (.type "type") "__init__"=some (.val (.builtin "ValueError.__init__")):=by
  split at b3
  ·rename_i i q
   rw[q,beq_iff_eq.mp b3]
  ·cases b3
 refine PySem.W.methodCall_KW (pl:=pl) (qQ I hg hm ?_ hdb) ht
 refine PySem.W.method_cls I.kIn b1 (PySem.W.cls_value I.kIn b2 b4 (by decide +kernel) ?_)
 have I0:=I.tok (s.toks+1)
 have hA:=ha pos pins _ σ H _ I0 h
 rw[hst]at hA ⊢
 refine Calls.callWith_builtin (by show(false||(backTo pos (starEach as X.env)).any (·.1))=false;rw[hpl]<;>rfl) (Calls.evalArgs_plain ?_)
 refine thn hA fun us s2 ⟨vs,H2,I2,r2,e,C,fI,tb,z,ev,he,hc,q2⟩=>?_
 subst ev
 obtain⟨u,w',rfl,ru,rw'⟩:=bP3 r2
 obtain rfl:u=Value.ref e:=ru
 obtain⟨bm,N,nm,qn,bs,hdct,sn,sub,ab,col,dd,k0,k1,k2,k3,k5,mN,hC,_,_,T⟩:=zW I2.kIn hc
 obtain⟨oe,ves,a1,a2,a3,a4,a5,a6⟩:=iX I2.hok he
 obtain⟨hh,g,d,tk,os⟩:=s2
 have eq:upd H2 e (exo e (.ref C) none tb)=H2:=by
  funext b
  by_cases q:b=e
  ·rw[q,aG,he]
  ·rw[aF q]
 have hd4:=Obj.data_mapFields a4 (·.setIfInBounds 0 (.ref hh.objs.size))
 have he1:(hh.push {cls:=.type "tuple",data:=.seq [w'].toArray}).get? e=some oe:=Heap.get?_push_of_some _ a1
 have hself:=Heap.get?_update_self (Obj.mapFields (·.setIfInBounds 0 (.ref hh.objs.size))) he1 (Obj.isFreed_of_fields hd4)
 refine cI7 PySem.F.excBase_ValueError T hC a1 a2 a4 (by omega) ?_ (by show 1<=sizeLine;decide)
 have I3:=I2.write (t':=tk) (x:=e) (e:=e) (o:=exo e (.ref C) none tb) (h':=(hh.push {cls:=.type "tuple",data:=.seq [w'].toArray}).update e (Obj.mapFields (·.setIfInBounds 0 (.ref hh.objs.size)))) (by rw[he];trivial) (.inl rfl)
  (fun b u hb q=>by rw[Heap.get?_update_other _ _ (Ne.symm hb)];exact Heap.get?_push_of_some _ q) ⟨_,hself⟩ (aJ3 hself ((mS _).trans a2) ((lA _).trans a3) hd4 (by simpa using a5) (by simpa using a6))
 rw[eq]at I3
 exact⟨.non,H2,I3,rfl,q2⟩
end
end L2
namespace L2
open PySem PySem.Spec PyProof.Rows
theorem mW(z:Str):(Str.empty++z).length=z.length:=by
 rw[Str.length_append]
 show 0+z.length=z.length
 omega
section
variable{X:Cx}{e:Expr}{te:TE}{z1:Str}{j:Nat}{p p' pos:Pos}
def dJ5(te:TE):TE:=fun σ H Q=>te σ H fun v H1=>∃ i:Int,v=.int i/\i.natAbs.log2 < 1000/\∀ z:Str,Q (.str z) H1
theorem cB8(he:PE X e te)(hz:z1.length<=1000:=by decide):PE X (.JoinedStr [.Constant (.str z1) j p,.FormattedValue e (-1) none p'] pos) (dJ5 te):=by
 intro pins s σ H Q I h
 refine wpAny_JoinedStr ?_
 show wpAny _ _ (eval (.Constant (.str z1) j p) X.env) _ _ s
 refine Calls.Constant_str ⟨z1,_,rfl,by rw[mW];exact Nat.le_trans hz (by decide),?_⟩
 show wpAny _ _ (eval (.FormattedValue e (-1) none p') X.env) _ _ _
 refine wpAny_FormattedValue_plain (thn (he pins _ σ H _ (I.tok _) h) fun u s1 ⟨v,H1,I1,rv,i,ev,hi,q⟩=>?_)
 subst ev
 obtain⟨t,rfl⟩:=rv
 have hl:=int_text_length_le (k:=1000) (by decide) hi
 have hb:(Str.empty++z1++Str.ofString (toString i)).length<=sizeLine:=by
  rw[Str.length_append,mW,PySem.ofString_length]
  exact Nat.le_trans (by omega:_<=3000) (by decide)
 refine wpAny_formatField_int (by omega) ⟨_,_,rfl,hb,hb,.str _,H1,(I1.tok _).tok _,⟨_,rfl⟩,q _⟩
def dJ6(te:TE):TE:=fun σ H Q=>te σ H fun v H1=>∃ z:Str,v=.str z/\z.length<=1000/\(∀ c∈z.cps.toList,c < 16 ^ 8)/\∀ z:Str,Q (.str z) H1
theorem cV7(he:PE X e te)(hz:z1.length<=1000:=by decide):PE X (.JoinedStr [.Constant (.str z1) j p,.FormattedValue e 114 none p'] pos) (dJ6 te):=by
 intro pins s σ H Q I h
 refine wpAny_JoinedStr ?_
 show wpAny _ _ (eval (.Constant (.str z1) j p) X.env) _ _ s
 refine Calls.Constant_str ⟨z1,_,rfl,by rw[mW];exact Nat.le_trans hz (by decide),?_⟩
 show wpAny _ _ (eval (.FormattedValue e 114 none p') X.env) _ _ _
 refine wpAny_FormattedValue_repr (thn (he pins _ σ H _ (I.tok _) h) fun u s1 ⟨v,H1,I1,rv,z,ev,hl,hc,q⟩=>?_)
 subst ev
 obtain⟨t,rfl⟩:=rv
 have hr:=PySem.StrLaws.reprText_len z hc
 have hr':(reprText z).length<=sizeLine:=Nat.le_trans (by omega:_<=20000) (by decide)
 have hb:(Str.empty++z1++reprText z).length<=sizeLine:=by
  rw[Str.length_append,mW]
  exact Nat.le_trans (by omega:_<=20000) (by decide)
 refine pyReprObj_str (wpAny_formatField_str ⟨_,_,rfl,hb,hb,.str _,H1,(I1.tok _).tok _,⟨_,rfl⟩,q _⟩ ⟨_,_,rfl,hb,hb,.str _,H1,((I1.tok _).tok _).tok _,⟨_,rfl⟩,q _⟩ hr') hr'
end
theorem rD:∀ {Ds:List Addr} {us:List Value},cF (Ds.map V.ref) us->us=Ds.map Value.ref
 | [],_,.nil=>rfl
 | D::r,_,.cons h1 h2=>by
   cases (show _=Value.ref D from h1)
   rw[rD h2];rfl
def cV8(K:PySem.W.Frag)(H:Hp)(C:Addr)(c:V)(b:Bool):Prop:=(∃ D,c=.ref D/\PySem.W.kitOne K (.ref C) (.ref D)=some b)\/(∃ T,c=.ty T/\PySem.W.kitOne K (.ref C) (.type T)=some b)\/∃ (t:Addr) (Ds:List Addr),c=.ref t/\H t=some (.tup (Ds.map V.ref))/\PySem.W.kitAny K (.ref C) (Ds.map Value.ref)=some b
def dC8(K:PySem.W.Frag):List V->Hp->VK->Prop:=fun xs H Q=>∃ (e C:Addr) (d:Option Addr) (tb:Value) (c:V) (b:Bool),xs=[.ref e,c]/\H e=some (exo e (.ref C) d tb)/\(d=none\/∃ dx fs,d=some dx/\H dx=some (.xd fs))/\xE K C=true/\cV8 K H C c b/\Q (.bl b) H
theorem vT{X:Cx}(K:PySem.W.Frag)(hK:X.K=K):kW X (.builtin "isinstance") (dC8 K):=by
 subst hK
 intro pins s σ H xs us Q I r h
 obtain⟨e,C,d,tb,c,b,rfl,he,hd,hc,ha,q⟩:=h
 obtain⟨u,w',rfl,ru,rw'⟩:=bP3 r
 cases (show u=Value.ref e from ru)
 have EC:=ExcC.of hc
 have J:∃ ox od,PySem.W.InstAt s.heap e ox C od:=by
  rcases hd with rfl | ⟨dx,fs,rfl,hx⟩
  ·obtain⟨oe,vs,J,_⟩:=xZ I.hok he
   exact⟨_,_,J⟩
  ·obtain⟨oe,od,J,_⟩:=yA I.hok he hx
   exact⟨_,_,J⟩
 have Z:=bT5 (x:=e) PySem.F.attr_ValueError EC.ga EC.gt EC.bx EC.cl EC.gn EC.tk EC.ob
 have fin:∀ tk,EP X pins σ Q (.bool b) {s with toks:=tk}:=fun tk=>⟨.bl b,H,I.tok tk,rfl,q⟩
 rcases ha with⟨D,rfl,hk⟩ | ⟨T,rfl,hk⟩ | ⟨t,Ds,rfl,ht,hk⟩
 ·cases (show w'=Value.ref D from rw')
  exact PySem.W.kia_one Z I.kIn J hk (fun z=>nomatch z) fin
 ·cases (show w'=Value.type T from rw')
  exact PySem.W.kia_one Z I.kIn J hk (fun z=>nomatch z) fin
 ·cases (show w'=Value.ref t from rw')
  obtain⟨_,its,vr,⟨⟨oc,od,oda,sl⟩,h1,h2,n,h3⟩,_⟩:=(show dM X.prog X.w H s.heap t (.tup _)from I.hok t _ ht)
  obtain rfl:=rD vr
  dsimp only at h2 h3
  subst h2
  subst h3
  exact PySem.W.kia_tup Z I.kIn J h1 hk (fun z=>nomatch z) fin
end L2
namespace L2
open PySem PySem.Spec PyProof.Rows
abbrev Cx.tr(X:Cx)(pins:List (Addr×Obj))(E:Value->Shared->Prop):Cx:={X with xe:=E,pn:=X.pn++pins}
abbrev Cx.sut(X:Cx)(e:Value)(E:Value->Shared->Prop):Cx:={X with A:=X.A.mark (some e),calm:=false,xe:=E}
section
variable{X:Cx}{pins pins':List (Addr×Obj)}{σ:St}{H:Hp}{s:Shared}{E:Value->Shared->Prop}{e:Value}
theorem Cx.Ok.tr(ok:X.Ok):(X.tr pins E).Ok:=⟨ok.mod,ok.kind,ok.glob,ok.blt,ok.above,ok.inj,ok.has,ok.cab,ok.hd,ok.frames,ok.stk,ok.exf,ok.bs,ok.bsz,ok.noex,ok.exfs,ok.funs,ok.frf⟩
theorem Cx.Ok.untr(ok:(X.tr pins E).Ok):X.Ok:=⟨ok.mod,ok.kind,ok.glob,ok.blt,ok.above,ok.inj,ok.has,ok.cab,ok.hd,ok.frames,ok.stk,ok.exf,ok.bs,ok.bsz,ok.noex,ok.exfs,ok.funs,ok.frf⟩
theorem Cx.Ok.sut(ok:X.Ok):(X.sut e E).Ok:=⟨ok.mod,ok.kind,ok.glob,ok.blt,ok.above,ok.inj,ok.has,ok.cab,(fun z=>nomatch z),ok.frames,ok.stk,ok.exf,ok.bs,ok.bsz,ok.noex,ok.exfs,ok.funs,ok.frf⟩
theorem Inv.tr(I:Inv X pins σ H s):Inv (X.tr pins E) [] σ H s:=⟨I.ok.tr,I.os,I.bare,I.base,I.loc,I.cell,I.free,I.freeC,fun p hp=>I.pin p (by rwa[List.append_nil]at hp),I.hok,I.len⟩
theorem Inv.untr(I:Inv (X.tr pins E) pins' σ H s):Inv X pins σ H s:=⟨I.ok.untr,I.os,I.bare,I.base,I.loc,I.cell,I.free,I.freeC,fun p hp=>I.pin p (List.mem_append_left _ hp),I.hok,I.len⟩
theorem Inv.sut(I:Inv X pins σ H s):Inv (X.sut e E) pins σ H s:=⟨I.ok.sut,I.os,I.bare,I.base,I.loc,I.cell,I.free,I.freeC,I.pin,I.hok,I.len⟩
theorem Inv.unsut(ok:X.Ok)(I:Inv (X.sut e E) pins σ H s):Inv X pins σ H s:=⟨ok,I.os,I.bare,I.base,I.loc,I.cell,I.free,I.freeC,I.pin,I.hok,I.len⟩
theorem SP.untr{D:Ends}{f:Flow}{s':Shared}(h:SP (X.tr pins E) [] D f s'):SP X pins D f s':=by
 cases f with
 | next=>obtain⟨σ',H',I,q⟩:=h;exact⟨σ',H',I.untr,q⟩
 | brk=>obtain⟨σ',H',I,q⟩:=h;exact⟨σ',H',I.untr,q⟩
 | cont=>obtain⟨σ',H',I,q⟩:=h;exact⟨σ',H',I.untr,q⟩
 | ret u=>obtain⟨v,σ',H',I,r,q⟩:=h;exact⟨v,σ',H',I.untr,r,q⟩
end
def Esc(X:Cx)(pins:List (Addr×Obj))(CX:CXT)(E:St->XK):Value->Shared->Prop:=fun x s'=>∃ σ' H1 s1,Inv X pins σ' H1 s1/\CX X.stack H1 s1 (E σ') x s'
section
variable{X:Cx}{CX:CXT}{k:Nat}{f:Addr}{fd:FuncData}{ps:List Str}{sp:Sp}{E:St->XK}{x:Str}{p pos:Pos}{e:Expr}{es:List Expr}{t:TA}{pins0:List (Addr×Obj)}
def aV2(sp:Sp)(E:St->XK)(t:TA):TE:=fun σ H Q=>t σ H fun vs H1=>sp vs H1 Q (E σ)
theorem bT6(F:FnOk X.prog X.w X.K X.mg X.base CX k f fd ps sp)(hr:Room k X.A)(hg:Gl X x)(hm:X.mg x=some (.ref f))(hk:PySem.W.keepIn X.K (.ref f)=true)(hb:dR X.K fd ps [])
  (ha:PA (X.tr pins0 (Esc X pins0 CX E)) (e::es) t) (hdb:(x==("__debug__":Str))=false:=by decide) (he:starEach (e::es) X.env=(false,eval e X.env)::starEach es X.env:=by rfl) (hpl:(backTo pos (starEach es X.env)).any (·.1)=false:=by rfl) :
  PE (X.tr pins0 (Esc X pins0 CX E)) (.Call (.Name x p) (e::es) [] pos) (aV2 sp E t):=by
 intro pins s σ H Q I h
 refine wpAny_Call_Name_kw (qQ I hg hm ?_ hdb)
 refine PySem.W.callWith_K (h₀:=X.base) I.ok.mod.kin hk (thn (ha pos pins s σ H _ I h) fun us s1 ⟨vs,H1,I1,r,q⟩=>⟨I1.kIn,?_⟩) he hpl
 have hl:(us++[]).length=ps.length:=by rw[List.append_nil,← r.length];exact F.len _ _ _ _ q
 have hbb:=hb s1 us I1.kIn hl
 rw[List.append_nil]at hbb
 refine wpAny_call (codeAny_mono (F.run X.A X.stack s1 H1 ⟨us,[]⟩ us vs Q (E σ) hr I1.env0 hbb r q) fun r s' hq=>?_)
 cases r with
 | error e=>exact⟨σ,H1,s1,I1.untr,hq⟩
 | ok fl=>
   cases fl with
   | ret u=>exact I1.after hq
   | next=>exact False.elim hq
   | brk=>exact False.elim hq
   | cont=>exact False.elim hq
end
structure Held(X:Cx)(pins:List (Addr×Obj))(H:Hp)(s:Shared)(T:Addr)(oT:Obj):Prop where
 at_:s.heap.get? T=some oT
 rec_:∃ ts,oT.data=.fields ts/\ts[3]? = some .none
 un:H T=none
 young:X.s₀.heap.objs.size<=T
 loc:T≠X.env.locals
 cell:∀ x c,X.env.cells.lookup x=some c->c≠T
 pin:∀ p∈X.pn++pins,p.1≠T
section
variable{X:Cx}{pins:List (Addr×Obj)}{σ:St}{H:Hp}{s:Shared}{T:Addr}{oT:Obj}
theorem Held.pinned(h:Held X pins H s T oT)(I:Inv X pins σ H s):Inv X ((T,oT)::pins) σ H s:=I.pins_of fun p hp=>by
 rcases List.mem_cons.mp hp with rfl | hp
 ·refine⟨h.at_,h.un,h.loc,fun z=>?_,fun v z=>?_⟩
  ·obtain⟨_,o,ho,_⟩:=I.ok.funs.mem z
   exact absurd (Nat.lt_of_lt_of_le (Heap.lt_size ho) h.young) (Nat.lt_irrefl _)
  ·obtain⟨ts,e,_⟩:=h.rec_
   rw[e]at z;cases z
 ·exact I.pin p (List.mem_append_right _ hp)
theorem Inv.unpin{p:Addr×Obj}(I:Inv X (p::pins) σ H s):Inv X pins σ H s:=I.pins_of fun q hq=>I.pin q (List.mem_append_right _ (List.mem_cons_of_mem _ hq))
theorem Held.again{σ':St}{H':Hp}{s':Shared}(h:Held X pins H s T oT)(I:Inv X ((T,oT)::pins) σ' H' s'):Held X pins H' s' T oT:=
 have p:=I.pin (T,oT) (List.mem_append_right _ List.mem_cons_self)
 ⟨p.1,h.rec_,p.2.1,h.young,h.loc,h.cell,h.pin⟩
theorem zZ{M:Model}{A:Around}{E:Value->Shared->Prop}{e:Addr}{C:Value}{d:Option Addr}{Q:Unit->Shared->Prop}(I:Inv X pins σ H s)(he:H e=some (exo e C d (.ref T)))(h:Held X pins H s T oT)
  (hq:∀ s',Inv X pins σ H s'->Q () s'):wpAny M A (setFlight (.ref e) none) Q E s:=by
 obtain⟨oe,vs,a1,a2,a3,a4,a5,a6⟩:=iX I.hok he
 obtain⟨ts,b5,b6⟩:=h.rec_
 have h3:=(Array.getElem?_eq_some_iff.mp b6).1
 refine wpAny_setFlight_none a1 a4 a6 h.at_ b5 h3 (hq _ ?_)
 exact I.turned (t':=s.toks) (fun b o hb q=>by rw[Heap.get?_update_other _ _ (Ne.symm hb)];exact q) h.un h.loc (.inr h.young) h.cell h.pin
theorem mX{M:Model}{A:Around}{E:Value->Shared->Prop}{i:Nat}{n:Str}{pos:Pos}{Q:Unit->Shared->Prop}(I:Inv X pins σ H s)(hN:X.N.Nodup)(hi:X.N[i]? = some n)(hl:X.env.scope.names.lookup n=some .local)
  (h:∀ s',Inv X pins (σ.set i none) H s'->Q () s'):wpAny M A (do bindName X.env n .none;unbindBehindTheSuite X.env n pos) Q E s:=by
 obtain⟨m,hn,hlk⟩:=id I.loc
 have hcls:(X.env.scope.kind==.class||(X.env.scope.kind==.module&&X.env.locals != X.env.globals))=false:=by rw[I.ok.kind];rfl
 have cne:=I.cne
 refine wpAny_nameGoes_keeps hl hn hcls fun h' v hn' hs=>?_
 obtain⟨oL,_,_,hoL,_⟩:=id hn
 have old:∀ b o,X.s₀.heap.get? b=some o->b≠X.env.locals:=fun b o e=>Nat.ne_of_lt (Nat.lt_of_lt_of_le (Heap.lt_size e) I.ok.above)
 refine h _ ⟨I.ok,I.os,I.bare,⟨fun b o e q hb hx=>(hs.2 b (old b o e)).trans (I.base.keep b o e q hb hx),fun b o e q hb hx=>?_,I.base.free,fun b o e hx=>?_,I.base.tups,I.base.frzs,I.base.tbls⟩,⟨_,hn',fun j y v' e1 e2 e3=>?_⟩,fun y c e=>?_,I.free,I.freeC,fun p hp=>?_,fun b ob e=>?_,by simpa using I.len⟩
 ·obtain⟨sl,e1⟩:=I.base.slot b o e q hb hx
  exact⟨sl,(hs.2 b (old b o e)).trans e1⟩
 ·obtain⟨o',e1⟩:=I.base.there b o e hx
  exact⟨o',(hs.2 b (old b o e)).trans e1⟩
 ·by_cases hj:j=i
  ·subst hj
   have hjl:j < σ.length:=by rw[I.len];exact(List.getElem?_eq_some_iff.mp hi).1
   rw[List.getElem?_set_self hjl]at e2
   cases e2
  ·rw[List.getElem?_set_ne (Ne.symm hj)]at e2
   obtain⟨u',r',q⟩:=hlk j y v' e1 e2 e3
   refine⟨u',r',?_⟩
   rcases q with⟨k,e⟩ | ⟨k,c,e,z⟩
   ·refine .inl ⟨k,?_⟩
    have:y≠n:=fun e=>hj (uE hN e1 (e ▸ hi))
    simp[this,e]
   ·exact .inr ⟨k,c,e,z.sameBut hs (cne y c e)⟩
 ·obtain⟨w',z⟩:=I.cell y c e
  exact⟨w',z.sameBut hs (cne y c e)⟩
 ·obtain⟨e,q,ne,nf,d⟩:=I.pin p hp
  exact⟨(hs.2 p.1 ne).trans e,q,ne,nf,d⟩
 ·refine(I.hok b ob e).stay (fun c w' hc q=>(hs.2 c ?_).trans q) (fun _ q=>q) fun _ _ q=>q
  rintro rfl
  rcases hc with hc | hc
  ·rw[← hc,I.free]at e;cases e
  ·rw[I.free]at hc;cases hc
end
end L2
namespace L2
open PySem PySem.Spec PyProof.Rows
def aV3(K:PySem.W.Frag)(H:Hp)(C:Addr)(c:V)(b:Bool):Prop:=(∃ D,c=.ref D/\PySem.W.typeIn K (.ref D)=some (.type "type")/\gU K C (.ref D)=some b) \/
 ∃ (t:Addr) (Ds:List Addr) (g:Value->Bool),c=.ref t/\H t=some (.tup (Ds.map V.ref))/\(∀ D∈Ds,gU K C (.ref D)=some (g (.ref D)))/\b=(Ds.map Value.ref).any g
abbrev TH:=Addr->Addr->Option Addr->Addr->TS
def PH(X:Cx)(hs:List ExceptHandler)(th:TH):Prop:=∀ (pins:List (Addr×Obj)) (s:Shared) (σ:St) (H:Hp) (D:Ends) (e C:Addr) (d:Option Addr) (T:Addr) (oT:Obj),Inv X pins σ H s->H e=some (exo e (.ref C) d (.ref T))->Held X pins H s T oT->th e C d T D σ H ->
 wpAny (model X.prog X.w) X.A (handleBy (.ref e) X.env hs) (SP X pins D) X.xe s
theorem cV9{X:Cx}:PH X [] fun _ _ _ _ _ _ _=>False:=fun _ _ _ _ _ _ _ _ _ _ _ _ _ h=>h.elim
def Ends.gone(D:Ends)(i:Nat):Ends:={nx:=fun σ H=>D.nx (σ.set i none) H,rt:=D.rt,bk:=fun σ H=>D.bk (σ.set i none) H,ct:=fun σ H=>D.ct (σ.set i none) H}
section
variable{X:Cx}{t:Expr}{tt:TE}{n:Str}{i:Nat}{b0:Stmt}{body:List Stmt}{ts:TS}{pos:Pos}{dI:List ExceptHandler}{th:TH}
theorem cJ1{pins:List (Addr×Obj)}{s:Shared}{σ:St}{H:Hp}{e C:Addr}{d:Option Addr}{T:Addr}{oT:Obj}{R:Result->Shared->Prop}(ht:∀ e E,PE (X.sut e E) t tt)(I:Inv X pins σ H s)(hT:Held X pins H s T oT)
  {Qr:VK} (h:tt σ H Qr) (hQ:∀ c H1,Qr c H1->H1 e=some (exo e (.ref C) d (.ref T))/\∃ b,aV3 X.K H1 C c b/\∀ s1,Inv X pins σ H1 s1->Held X pins H1 s1 T oT->R (.ok (if b then .brk else .next)) s1) :
  codeAny (model X.prog X.w) (X.A.mark (some (.ref e))) (.handlers (.ref e) [.ExceptHandler (some t) none [] pos] X.env) R s:=by
 refine codeAny_handlers_test (thn (ht (.ref e) _ ((T,oT)::pins) s σ H _ (hT.pinned I).sut h) fun u s1 ⟨c,H1,I1',rc,q0⟩=>?_)
 obtain⟨he,b,hb,q⟩:=hQ c H1 q0
 have I1:=I1'.unsut I.ok
 obtain⟨oe,vs,a1,a2,_⟩:=iX I1.hok he
 have hT1:=hT.again I1
 rcases hb with⟨D,rfl,h1,h2⟩ | ⟨tp,Ds,g,rfl,h1,h2,rfl⟩
 ·cases (show u=Value.ref D from rc)
  exact zX I1.kIn a1 a2 h1 h2 (q s1 I1.unpin hT1)
 ·cases (show u=Value.ref tp from rc)
  obtain⟨_,its,vr,⟨o,k1,k2,n',k3⟩,_⟩:=(show dM X.prog X.w H1 s1.heap tp (.tup _)from I1.hok tp _ h1)
  obtain rfl:=rD vr
  refine zY (cs:=Ds.map Value.ref) (g:=g) I1.kIn a1 a2 ⟨o,n',k1,k2,k3⟩ (fun c hc=>?_) (q s1 I1.unpin hT1)
  obtain⟨D,hD,rfl⟩:=List.mem_map.mp hc
  exact h2 D hD
def hAs(K:PySem.W.Frag)(tt:TE)(i:Nat)(ts:TS)(th:TH):TH:=fun e C d T D σ H=>tt σ H fun c H1=>H1 e=some (exo e (.ref C) d (.ref T))/\∃ b,aV3 K H1 C c b/\(if b then ts (D.gone i) (σ.set i (some (.ref e))) H1 else th e C d T D σ H1)
theorem dG4(K:PySem.W.Frag)(hK:X.K=K)(hN:X.N.Nodup)(hi:X.N[i]? = some n)(hl:X.env.scope.names.lookup n=some .local)(ht:∀ e E,PE (X.sut e E) t tt)(hb:∀ e E,PSs (X.sut e E) (b0::body) ts)(hr:PH X dI th) :
  PH X (.ExceptHandler (some t) (some n) (b0::body) pos::dI) (hAs K tt i ts th):=by
 subst hK
 intro pins s σ H D e C d T oT I he hT h
 refine wpAny_handleBy_cons (cJ1 (C:=C) (d:=d) ht I hT h fun c H1 q=>⟨q.1,?_⟩) (fun z=>nomatch z)
 obtain⟨he1,b,hc,q⟩:=q
 refine⟨b,hc,fun s1 I1 hT1=>?_⟩
 cases b with
 | false=>exact hr pins s1 σ H1 D e C d T oT I1 he1 hT1 q
 | true=>
   show codeAny _ _ (.handlers (.ref e) [.ExceptHandler none (some n) (b0::body) pos] X.env) _ s1
   refine codeAny_handlers_suite_as (zZ I1 he1 hT1 fun s2 I2=>?_)
   refine mE I2 hN hi (Or.inl hl) (v:=.ref e) rfl (fun s3 I3=>?_) (.inr hl)
   refine wpAny_mono (hb (.ref e) _ pins s3 _ H1 _ I3.sut q) (fun f s4 h4=>?_) fun _ _ z=>z
   have ok:=I.ok
   show wpAny (model X.prog X.w) X.A (do bindName X.env n .none;unbindBehindTheSuite X.env n pos) _ _ s4
   cases f with
   | next=>
     obtain⟨σ',H',I4,q4⟩:=h4
     exact mX (I4.unsut ok) hN hi hl fun s5 I5=>⟨_,_,I5,q4⟩
   | brk=>
     obtain⟨σ',H',I4,q4⟩:=h4
     exact mX (I4.unsut ok) hN hi hl fun s5 I5=>⟨_,_,I5,q4⟩
   | cont=>
     obtain⟨σ',H',I4,q4⟩:=h4
     exact mX (I4.unsut ok) hN hi hl fun s5 I5=>⟨_,_,I5,q4⟩
   | ret u=>
     obtain⟨v,σ',H',I4,rv,q4⟩:=h4
     exact mX (I4.unsut ok) hN hi hl fun s5 I5=>⟨v,_,_,I5,rv,q4⟩
def hNo(K:PySem.W.Frag)(tt:TE)(ts:TS)(th:TH):TH:=fun e C d T D σ H=>tt σ H fun c H1=>H1 e=some (exo e (.ref C) d (.ref T))/\∃ b,aV3 K H1 C c b/\(if b then ts D σ H1 else th e C d T D σ H1)
theorem aV4{pins:List (Addr×Obj)}{s:Shared}{σ:St}{H:Hp}{e C:Addr}{d:Option Addr}{tb:Value}{T To:Addr}{oe:Obj}{vs:Array Value}{old:Addr->Prop}{h':Heap}(I:Inv X pins σ H s)(he:H e=some (exo e (.ref C) d tb))(hoe:s.heap.get? e=some oe)(hc:oe.cls=.ref C)(hdd:oe.dict=d)(hd:oe.data=.fields vs)(hs:5 < vs.size)
  (hold:∀ b,old b->b=To) (h1:H To=none) (h2:X.s₀.heap.objs.size<=To) (h3:To≠X.env.locals) (h4:∀ x c,X.env.cells.lookup x=some c->c≠To) (h5:∀ p∈X.pn++pins,p.1≠To) (n:Noted (frs X.stack) e T oe old s.heap h') :
  Inv X pins σ (upd H e (exo e (.ref C) d (.ref T))) {s with heap:=h'}:=by
 have ne:∀ b,H b=none->b≠e:=fun b q z=>by rw[z,he]at q;cases q
 have no:∀ b,b∉[To]->¬ old b:=fun b hb z=>hb (by rw[hold b z];exact List.mem_singleton.mpr rfl)
 have tr:∀ b u,H b=some u->(∀ x,u≠.ext x)->(upd H e (exo e (.ref C) d (.ref T))) b=some u:=fun b u q hx=>by
  rw[aF (fun z=>by rw[z,he]at q;exact hx _ (Option.some.inj q).symm)];exact q
 refine I.step (g':=s.gens) (t':=s.toks) (d':=s.drawn) (ch:=[To]) (fun b hb=>?_) (fun b o hL hf hch q nH=>?_) (fun b o hL hf hch q nH=>?_) (fun b o hch q nH=>by rw[aF (ne b nH)];exact nH) (fun b o hch q=>n.there b o q)
  (fun b xs q=>tr b _ q (fun x z=>nomatch z)) (fun b o u q=>tr b _ q (fun x z=>nomatch z)) (fun b ps q=>⟨#[],by rw[tr b _ q (fun x z=>nomatch z)];simp⟩) (fun m hm=>?_) (xW I he hoe hc hdd hd hs (fun b z=>by rw[hold b z];exact h1) n) I.bare
 ·rw[List.mem_singleton.mp hb]
  exact⟨.inr h2,h3,h4,h5⟩
 ·exact n.keep b o (ne b nH) (no b hch) (fun z=>(List.mem_cons.mp (I.stkSub b z)).elim hL hf) q
 ·exact n.slot b o (ne b nH) (no b hch) q
 ·obtain⟨o,es,ep,ho,r⟩:=hm
  obtain⟨sl,q⟩:=n.slot _ o (ne _ I.free) (no _ (fun z=>h3 (List.mem_singleton.mp z).symm)) ho
  exact⟨_,es,ep,q,r⟩
def dG5(tb:(St->XK)->TS)(th:TH):TS:=fun D σ H=>tb (fun σ' x d H'=>∃ e C T,x=.ref e/\H' e=some (exo e (.ref C) d (.ref T))/\th e C d T D σ' H') D σ H
theorem cW0{P:Program}{w:World}{body:List Stmt}{h0:ExceptHandler}{hs:List ExceptHandler}{tb:(St->XK)->TS}(hP:X.prog=P)(hw:X.w=w)(hst:X.stack=X.env::X.outer)(hfr:X.env.frame=some X.env.locals)
  (hb:∀ pins E,PSs (X.tr pins (Esc X pins (CXo P w) E)) body (tb E)) (hh:PH X (h0::hs) th):PS X (.Try body (h0::hs) [] [] pos) (dG5 tb th):=by
 subst hP
 subst hw
 intro pins s σ H D I h
 refine wpAny_Try_except (wpAny_mono (hb pins _ [] s σ H D I.tr h) (fun f s1 h1=>?_) fun x s1 h1=>?_)
 ·have h2:=h1.untr
  cases f with
  | next=>exact wpAny_pure h2
  | brk=>exact h2
  | cont=>exact h2
  | ret u=>exact h2
 ·obtain⟨σ',H1,s0,I0,e,C,d,H2,T,rfl,os,bare,un,hok,he,hsT,hT,hTe,⟨oT,ts,b4,b5,b6⟩,hE⟩:=h1
  have I2:=I0.call' os un hok bare (fun b z=>absurd z (by simp))
  obtain⟨oe,vs,a1,a2,a3,a4,a5,a6⟩:=iX I2.hok he
  have lt0:∀ {b:Addr} {o:Obj},s0.heap.get? b=some o->b≠T:=fun q=>Nat.ne_of_lt (Nat.lt_of_lt_of_le (Heap.lt_size q) hsT)
  have fr2:X.A.frames=some (X.env::X.outer):=by rw[← hst];exact I.ok.frames
  have st2:s1.heap.FunFrames X.base (X.env::X.outer):=by rw[← hst];exact I2.stack
  refine aU7 (L:=X.env.locals) (base:=X.base) fr2 st2 hfr a1 a4 (.inr ⟨T,oT,ts,a6,hTe,b4,b5,b6⟩) fun h' T' n=>?_
  have n':Noted (frs X.stack) e T' oe (fun b=>vs[1]? = some (.ref b)) s1.heap h':=by rw[hst];exact n
  have I3:=aV4 I2 he a1 a2 a3 a4 a5 (To:=T) (fun b z=>by rw[a6]at z;exact(Value.ref.inj (Option.some.inj z)).symm) hT (Nat.le_trans I0.sz hsT) (Nat.ne_of_gt (Nat.lt_of_lt_of_le I0.lt hsT))
   (fun x c q=>by obtain⟨v,o,ho,_⟩:=I0.cell x c q;exact lt0 ho) (fun p hp=>lt0 (I0.pin p hp).1) n'
  have hT2:H2 T'=none:=I2.hok.fresh n.new
  have hTe':T'≠e:=fun z=>by rw[z,he]at hT2;cases hT2
  have lt1:∀ {b:Addr} {o:Obj},s1.heap.get? b=some o->b≠T':=fun q=>Nat.ne_of_lt (Nat.lt_of_lt_of_le (Heap.lt_size q) n.new)
  obtain⟨oT',ts',t1,t2,t3⟩:=n.tb
  obtain⟨e2,C2,T2,q1,q2,q3⟩:=hE T'
  cases q1
  obtain⟨o2,v2,z1,z2,_,z3,_,z4⟩:=iX I3.hok q2
  obtain⟨o3,v3,y1,y2,_,y3,_,y4⟩:=iX I3.hok (aG (H:=H2) (a:=e) (o:=exo e (.ref C) d (.ref T')))
  rw[z1]at y1
  cases y1
  rw[z2]at y2
  cases y2
  rw[z3]at y3
  cases y3
  rw[z4]at y4
  cases y4
  exact hh pins _ σ' _ D e C d T' oT' I3 aG ⟨t1,⟨ts',t2,t3⟩,by rw[aF hTe'];exact hT2,Nat.le_trans I2.sz n.new,Nat.ne_of_gt (Nat.lt_of_lt_of_le I2.lt n.new),
   (fun x c q=>by obtain⟨v,o,ho,_⟩:=I2.cell x c q;exact lt1 ho),(fun p hp=>lt1 (I2.pin p hp).1)⟩ q3
end
end L2
namespace L2
open PySem PySem.Spec PyProof.Rows
section
variable{κ:Type}[DecidableEq κ]
def dJ7(kvs:List (κ×V))(k:κ):Option V:=(kvs.find? fun kv=>decide (kv.1=k)).map (·.2)
def dM7(kvs:List (κ×V))(k:κ)(v:V):List (κ×V):=
 if(kvs.any fun kv=>decide (kv.1=k))=true then kvs.map (fun kv=>if kv.1=k then(kv.1,v)else kv)else kvs++[(k,v)]
end
section
variable{P:Program}{w:World}{H:Hp}{h:Heap}{a:Addr}
end
def dJ8(H:Hp)(a:Addr)(y:V)(r:Option V):Prop:=
 (∃ kvs k,Rd H a (.dK kvs)/\y=kV k/\r=dJ7 kvs k)\/∃ kvs k b,Rd H a (.dT kvs)/\y=.ref b/\H b=some (.tup (k.map kV))/\r=dJ7 kvs k
section
variable{X:Cx}{pins:List (Addr×Obj)}{σ:St}{H:Hp}{s:Shared}{a:Addr}{y v:V}{u r:Value}{o:Option V}{A:Around}{E:Value->Shared->Prop}
end
section
variable{X:Cx}{pins:List (Addr×Obj)}{σ:St}{H:Hp}{s:Shared}{a:Addr}{kvs:List (Key×V)}{k:Key}{u:Value}{A:Around}{E:Value->Shared->Prop}
end
section
variable{X:Cx}{o i e value:Expr}{pos pos' tpos:Pos}{td ty tv:TE}
end
section
variable{X:Cx}{pos:Pos}
end
def tK:List (TE×TE)->St->Hp->(List (V×V)->Hp->Prop)->Prop
 | [],_,H,Q=>Q [] H
 | (tk,tv)::r,σ,H,Q=>tk σ H fun x H1=>tv σ H1 fun y H2=>tK r σ H2 fun ps H3=>Q ((x,y)::ps) H3
def cB9(kvs more:List (Key×V)):List (Key×V):=more.foldl (fun acc kv=>dM7 acc kv.1 kv.2) kvs
def dG6(trs:List (TE×TE)):TE:=fun σ H Q=>∀ p,H p=none->tK trs σ (upd H p (.dK [])) fun ps H2=>H2 p=some (.dK [])/\∃ kvs:List (Key×V),ps=kvs.map (fun kv=>(kV kv.1,kv.2))/\kvs.length<=15/\Q (.ref p) (upd H2 p (.dK (cB9 [] kvs)))
def IsD(H:Hp)(a:Addr):Prop:=(∃ kvs,Rd H a (.dK kvs))\/∃ kvs,Rd H a (.dT kvs)
section
variable{X:Cx}{pins:List (Addr×Obj)}{σ:St}{H:Hp}{s:Shared}{a:Addr}{y d:V}{u r:Value}{o:Option V}{A:Around}{E:Value->Shared->Prop}
end
def cW1(td ty tx:TE):TE:=fun σ H Q=>td σ H fun x H1=>∃ a,x=.ref a/\IsD H1 a/\ty σ H1 fun y H2=>tx σ H2 fun z H3=>∃ o,dJ8 H3 a y o/\Q (o.getD z) H3
section
variable{X:Cx}{o e f:Expr}{apos cpos:Pos}{td ty tx:TE}
end
section
variable{X:Cx}{pins:List (Addr×Obj)}{σ:St}{H:Hp}{s:Shared}{a:Addr}{kvs:List (Key×V)}{A:Around}{E:Value->Shared->Prop}
end
section
variable{X:Cx}{pins:List (Addr×Obj)}{σ:St}{H:Hp}{s:Shared}{a:Addr}{y:V}{u:Value}{A:Around}{E:Value->Shared->Prop}
end
end L2
namespace L2
open PySem PySem.Spec PyProof.Rows
section
variable{X:Cx}
end
section
variable{K:PySem.W.Frag}{t:TA}{te to tv:TE}{f:Str}{σ:St}{H:Hp}{Q:VK}{D:Ends}{sp:Sp}{C:Addr}{E:XK}{Ex:St->XK}{tb:(St->XK)->TS}{th:TH}{i:Nat}{ts:TS}
theorem aV5:cV6 K t σ H Q=t σ H fun vs H1=>∃ (e C fI:Addr) (tb:Value) (z:Str),vs=[.ref e,.str z]/\H1 e=some (exo e (.ref C) none tb)/\xY K C fI bmV "ValueError.__new__"=true/\Q .non H1:=rfl
theorem cC0:dJ5 te σ H Q=te σ H fun v H1=>∃ i:Int,v=.int i/\i.natAbs.log2 < 1000/\∀ z:Str,Q (.str z) H1:=rfl
theorem cC1:dJ6 te σ H Q=te σ H fun v H1=>∃ z:Str,v=.str z/\z.length<=1000/\(∀ c∈z.cps.toList,c < 16 ^ 8)/\∀ z:Str,Q (.str z) H1:=rfl
theorem cW2:tAt K te f σ H Q=te σ H fun v H1=>∃ (e C dx:Addr) (fs:List (Str×V)) (tb:Value) (y:V),v=.ref e/\H1 e=some (exo e (.ref C) (some dx) tb)/\H1 dx=some (.xd fs)/\xE K C=true/\PySem.W.findIn K (.ref C) f=some none/\fs.lookup f=some y/\((∃ i,y=.int i)\/∃ z,y=.str z)/\Q y H1:=rfl
theorem cC2:sAt K to tv f D σ H=tv σ H fun y H1=>to σ H1 fun v H2=>∃ (e C:Addr) (tb:Value),v=.ref e/\H2 e=some (exo e (.ref C) none tb)/\xE K C=true/\PySem.W.findIn K (.ref C) f=some none/\∀ dx,H2 dx=none->dx≠e->D.nx σ (upd (upd H2 e (exo e (.ref C) (some dx) tb)) dx (.xd [(f,y)])):=rfl
theorem cC3:dG1 C sp E t σ H Q=t σ H fun vs H1=>vs.length<=1000/\∀ a,H1 a=none->sp (.ref a::vs) (upd H1 a (exo a (.ref C) none .none)) (fun v H2=>v=.non/\Q (.ref a) H2) E:=rfl
theorem aV6:dG3 C t σ H Q=t σ H fun vs H1=>vs.length<=1000/\∀ a,H1 a=none->Q (.ref a) (upd H1 a (exo a (.ref C) none .none)):=rfl
theorem aJ6:aV1 K E te D σ H=te σ H fun v H1=>∃ (e C:Addr) (d:Option Addr),v=.ref e/\H1 e=some (exo e (.ref C) d .none)/\exR K C/\∀ T,E (.ref e) d (upd H1 e (exo e (.ref C) d (.ref T))):=rfl
theorem aJ7:aV2 sp Ex t σ H Q=t σ H fun vs H1=>sp vs H1 Q (Ex σ):=rfl
theorem cC4:dG5 tb th D σ H=tb (fun σ' x d H'=>∃ e C T,x=.ref e/\H' e=some (exo e (.ref C) d (.ref T))/\th e C d T D σ' H') D σ H:=rfl
theorem cC5{tt:TE}{e T:Addr}{d:Option Addr}:hAs K tt i ts th e C d T D σ H=tt σ H fun c H1=>H1 e=some (exo e (.ref C) d (.ref T))/\∃ b,aV3 K H1 C c b/\(if b then ts (D.gone i) (σ.set i (some (.ref e))) H1 else th e C d T D σ H1):=rfl
theorem cC6{tt:TE}{e T:Addr}{d:Option Addr}:hNo K tt ts th e C d T D σ H=tt σ H fun c H1=>H1 e=some (exo e (.ref C) d (.ref T))/\∃ b,aV3 K H1 C c b/\(if b then ts D σ H1 else th e C d T D σ H1):=rfl
end
end L2
namespace Mr
open PySem L2 PyProof.Rows
def dM8(z:Str):Prop:=z.length<=100/\∀ c∈z.cps.toList,c < 16 ^ 8
def spI(f:Str):Sps:=fun K vs H Q _=>∃ (e C fI:Addr) (i:Int),vs=[.ref e,.int i]/\H e=some (exo e (.ref C) none .none)/\xE K C=true/\xY K C fI bmV "ValueError.__new__"=true/\PySem.W.findIn K (.ref C) f=some none/\i.natAbs.log2 < 1000 /\
 ∀ dx,H dx=none->dx≠e->Q .non (upd (upd H e (exo e (.ref C) (some dx) .none)) dx (.xd [(f,.int i)]))
def spS(f:Str):Sps:=fun K vs H Q _=>∃ (e C fI:Addr) (z:Str),vs=[.ref e,.str z]/\H e=some (exo e (.ref C) none .none)/\xE K C=true/\xY K C fI bmV "ValueError.__new__"=true/\PySem.W.findIn K (.ref C) f=some none/\dM8 z /\
 ∀ dx,H dx=none->dx≠e->Q .non (upd (upd H e (exo e (.ref C) (some dx) .none)) dx (.xd [(f,.str z)]))
def sp0:Sps:=fun K vs H Q _=>∃ (e C fI:Addr),vs=[.ref e]/\H e=some (exo e (.ref C) none .none)/\xE K C=true/\xY K C fI bmV "ValueError.__new__"=true/\Q .non H
def vU:Sps:=spI "at"
def jD:Sps:=spI "at"
def vV:Sps:=spS "table"
def aO5:Sps:=sp0
open PySem L2
theorem aV7{H:Hp}{e dx:Addr}{o1 o2 o3 x:HO}(he:H e=none)(hd:H dx=none):lX H (upd (upd (upd (upd H e o1) e o2) dx x) e o3):=fun b o q=>by
 have h1:b≠e:=aE q he
 have h2:b≠dx:=aE q hd
 rw[aF h1,aF h2,aF h1,aF h1];exact q
theorem cJ2{H:Hp}{e dx:Addr}{o1 o2 o3 x:HO}(hne:dx≠e):(upd (upd (upd (upd H e o1) e o2) dx x) e o3) dx=some x:=by rw[aF hne,aG]
theorem cW3{H:Hp}{e dx:Addr}{o1 o2 x:HO}(hne:dx≠e):(upd (upd (upd H e o1) e o2) dx x) e=some o2:=by rw[aF hne.symm,aG]
theorem aV8{H:Hp}{e dx:Addr}{o:HO}(hne:dx≠e)(h:(upd H e o) dx=none):H dx=none:=by rw[aF hne]at h;exact h
open PySem L2
open PySem L2
section
variable{K:PySem.W.Frag}{H:Hp}{C t D0 D1 D2 D3:Addr}{b0 b1 b2 b3:Bool}
end
end Mr
namespace L2
open PySem PySem.Spec PyProof.Rows
section
variable{X:Cx}
end
section
variable{t tk tv td ty tx:TE}{r:List (TE×TE)}{σ:St}{H:Hp}{Q:VK}{R:List (V×V)->Hp->Prop}
theorem aV9:dG6 r σ H Q=∀ p,H p=none->tK r σ (upd H p (.dK [])) fun ps H2=>H2 p=some (.dK [])/\∃ kvs:List (Key×V),ps=kvs.map (fun kv=>(kV kv.1,kv.2))/\kvs.length<=15/\Q (.ref p) (upd H2 p (.dK (cB9 [] kvs))):=rfl
theorem yC:tK [] σ H R=R [] H:=rfl
theorem yD:tK ((tk,tv)::r) σ H R=tk σ H fun x H1=>tv σ H1 fun y H2=>tK r σ H2 fun ps H3=>R ((x,y)::ps) H3:=rfl
theorem aJ8:cW1 td ty tx σ H Q=td σ H fun x H1=>∃ a,x=.ref a/\IsD H1 a/\ty σ H1 fun y H2=>tx σ H2 fun z H3=>∃ o,dJ8 H3 a y o/\Q (o.getD z) H3:=rfl
end
end L2
namespace L2
open PySem PySem.Spec PyProof.Rows
end L2
namespace Mr
open PySem L2 PyProof.Rows
theorem tL{m:Nat}{sep:Str}(hs:∀ c∈sep.cps.toList,c < m):∀ zs:List Str,(∀ z∈zs,∀ c∈z.cps.toList,c < m)->∀ c∈(Str.join sep zs).cps.toList,c < m
 | [],_=>fun c hc=>by simp[Str.join,Str.empty]at hc
 | [x],h=>fun c hc=>h x List.mem_cons_self c hc
 | x::y::r,h=>fun c hc=>by
   have ih:=tL hs (y::r) fun z hz=>h z (List.mem_cons_of_mem _ hz)
   have e:(Str.join sep (x::y::r)).cps.toList=x.cps.toList++sep.cps.toList++(Str.join sep (y::r)).cps.toList:=by
    show(x++sep++Str.join sep (y::r)).cps.toList=_
    rw[Str.cps_append,Str.cps_append,Array.toList_append,Array.toList_append]
   rw[e]at hc
   rcases List.mem_append.mp hc with hc | hc
   ·rcases List.mem_append.mp hc with hc | hc
    ·exact h x List.mem_cons_self c hc
    ·exact hs c hc
   ·exact ih c hc
theorem aA0{m:Nat}{sep:Str}(hs:∀ c∈sep.cps.toList,c < m)(zs:List Str)(h:∀ z∈zs,∀ c∈z.cps.toList,c < m):∀ c∈(PySem.Txt.join sep zs).cps.toList,c < m:=by
 show ∀ c∈(PySem.Builtin.Str.glued sep zs).cps.toList,c < m
 rw[StrLaws.glued_eq_join]
 exact tL hs zs h
theorem aW0:∀ c∈(Str.ofString "abcdefghijklmnopqrstuvwxyz").cps.toList,c < 128:=by decide
end Mr
namespace Dv
open PySem L2
inductive D where
 | non | bl (b:Bool) | int (i:Int) | str (x:Str) | tup (l:List D) | lst (l:List D) | dic (ks vs:List D)
noncomputable instance:DecidableEq D:=fun _ _=>Classical.propDecidable _
instance:Inhabited D:=⟨.non⟩
def dJ9:Key->D
 | .inl i=>.int i
 | .inr x=>.str x
def cW4:HO->List D->List V->Prop
 | .dK kvs,ks,ws=>ks=kvs.map (fun kv=>dJ9 kv.1)/\ws=kvs.map (·.2)
 | .dT kvs,ks,ws=>ks=kvs.map (fun kv=>D.tup (kv.1.map dJ9))/\ws=kvs.map (·.2)
 | _,_,_=>False
mutual
inductive Rp(H:Hp):D->V->Prop
 | non:Rp H .non .non
 | bl (b:Bool):Rp H (.bl b) (.bl b)
 | int (i:Int):Rp H (.int i) (.int i)
 | str (x:Str):Rp H (.str x) (.str x)
 | tup {l:List D} {p:Addr} {xs:List V}:H p=some (.tup xs)->Rps H l xs->Rp H (.tup l) (.ref p)
 | lst {l:List D} {p:Addr} {xs:List V} {o:Obj}:H p=some (.frz o (.lst xs))->Rps H l xs->Rp H (.lst l) (.ref p)
 | dic {ks vs:List D} {p:Addr} {o:Obj} {u:HO} {ws:List V}:H p=some (.frz o u)->cW4 u ks ws->Rps H vs ws->Rp H (.dic ks vs) (.ref p)
inductive Rps(H:Hp):List D->List V->Prop
 | nil:Rps H [] []
 | cons {d:D} {r:List D} {x:V} {xs:List V}:Rp H d x->Rps H r xs->Rps H (d::r) (x::xs)
end
structure Ext(H H':Hp):Prop where
 tup:∀ p xs,H p=some (.tup xs)->H' p=some (.tup xs)
 frz:∀ p o u,H p=some (.frz o u)->H' p=some (.frz o u)
theorem Ext.same{H H':Hp}(h:lX H H'):Ext H H':=⟨fun p xs e=>h p _ e,fun p o u e=>h p _ e⟩
mutual
theorem Rp.mono{H H':Hp}(he:Ext H H'):∀ {d:D} {x:V},Rp H d x->Rp H' d x
 | _,_,.non=>.non
 | _,_,.bl b=>.bl b
 | _,_,.int i=>.int i
 | _,_,.str x=>.str x
 | _,_,.tup h r=>.tup (he.tup _ _ h) (Rps.mono he r)
 | _,_,.lst h r=>.lst (he.frz _ _ _ h) (Rps.mono he r)
 | _,_,.dic h k r=>.dic (he.frz _ _ _ h) k (Rps.mono he r)
theorem Rps.mono{H H':Hp}(he:Ext H H'):∀ {l:List D} {xs:List V},Rps H l xs->Rps H' l xs
 | _,_,.nil=>.nil
 | _,_,.cons a r=>.cons (Rp.mono he a) (Rps.mono he r)
end
section
variable{H:Hp}
theorem Rps.length:∀ {l:List D} {xs:List V},Rps H l xs->l.length=xs.length
 | _,_,.nil=>rfl
 | _,_,.cons _ r=>by simp[Rps.length r]
theorem Rps.get:∀ {l:List D} {xs:List V} {i:Nat} {d:D},Rps H l xs->l[i]? = some d->∃ x,xs[i]? = some x/\Rp H d x
 | _,_,_,_,.nil,h=>by simp at h
 | _,_,0,_,.cons a r,h=>by simp at h;subst h;exact⟨_,rfl,a⟩
 | _,_,i+1,_,.cons a r,h=>by
   obtain⟨x,e,q⟩:=Rps.get (i:=i) r (by simpa using h)
   exact⟨x,by simpa using e,q⟩
theorem Rps.append:∀ {l m:List D} {xs ys:List V},Rps H l xs->Rps H m ys->Rps H (l++m) (xs++ys)
 | _,_,_,_,.nil,h=>h
 | _,_,_,_,.cons a r,h=>.cons a (Rps.append r h)
theorem Rps.take:∀ {l:List D} {xs:List V} (n:Nat),Rps H l xs->Rps H (l.take n) (xs.take n)
 | _,_,0,_=>.nil
 | _,_,_+1,.nil=>.nil
 | _,_,n+1,.cons a r=>.cons a (Rps.take n r)
theorem Rps.drop:∀ {l:List D} {xs:List V} (n:Nat),Rps H l xs->Rps H (l.drop n) (xs.drop n)
 | _,_,0,r=>r
 | _,_,_+1,.nil=>.nil
 | _,_,n+1,.cons _ r=>Rps.drop n r
theorem Rps.set:∀ {l:List D} {xs:List V} {d:D} {x:V} (i:Nat),Rps H l xs->Rp H d x->Rps H (l.set i d) (xs.set i x)
 | _,_,_,_,_,.nil,_=>.nil
 | _,_,_,_,0,.cons _ r,q=>.cons q r
 | _,_,_,_,i+1,.cons a r,q=>.cons a (Rps.set i r q)
theorem qG:∀ ns:List Int,Rps H (ns.map D.int) (ns.map V.int)
 | []=>.nil
 | n::r=>.cons (.int n) (qG r)
theorem aJ9:∀ ns:List Str,Rps H (ns.map D.str) (ns.map V.str)
 | []=>.nil
 | n::r=>.cons (.str n) (aJ9 r)
theorem Rps.ints_inv:∀ {ns:List Int} {xs:List V},Rps H (ns.map D.int) xs->xs=ns.map V.int
 | [],_,h=>by cases h;rfl
 | n::r,_,h=>by
   rw[List.map_cons]at h
   cases h with
   | cons a t=>cases a;rw[Rps.ints_inv t];rfl
theorem Rps.strs_inv:∀ {ns:List Str} {xs:List V},Rps H (ns.map D.str) xs->xs=ns.map V.str
 | [],_,h=>by cases h;rfl
 | n::r,_,h=>by
   rw[List.map_cons]at h
   cases h with
   | cons a t=>cases a;rw[Rps.strs_inv t];rfl
theorem Rps.bls_inv:∀ {ns:List Bool} {xs:List V},Rps H (ns.map D.bl) xs->xs=ns.map V.bl
 | [],_,h=>by cases h;rfl
 | n::r,_,h=>by
   rw[List.map_cons]at h
   cases h with
   | cons a t=>cases a;rw[Rps.bls_inv t];rfl
end
inductive Md where
 | val | own | par | lent
 deriving DecidableEq
def Md.mt:Md->Bool
 | .own=>true
 | .par=>true
 | _=>false
structure Sl where
 m:Md
 d:D
abbrev Sg:=List (Option Sl)
def eK(H:Hp)(d:D)(p:Addr):Prop:=match d with
 | .lst l=>∃ xs,H p=some (.lst xs)/\Rps H l xs
 | .dic ks vs=>∃ u ws,H p=some u/\cW4 u ks ws/\Rps H vs ws
 | _=>False
theorem eK.mono{H H':Hp}{d:D}{p:Addr}(h:eK H d p)(e:Ext H H')(hp:∀ o,H p=some o->H' p=some o):eK H' d p:=by
 unfold eK at h ⊢
 split at h
 ·obtain⟨xs,h1,h2⟩:=h;exact⟨xs,hp _ h1,h2.mono e⟩
 ·obtain⟨u,ws,h1,h2,h3⟩:=h;exact⟨u,ws,hp _ h1,h2,h3.mono e⟩
 ·exact h.elim
theorem eK.obj{H:Hp}{d:D}{p:Addr}(h:eK H d p):∃ o,H p=some o/\(∀ xs,o≠.tup xs)/\∀ ob u,o≠.frz ob u:=by
 unfold eK at h
 split at h
 ·obtain⟨xs,h1,h2⟩:=h;exact⟨_,h1,⟨fun _ z=>(by cases z),fun _ _ z=>(by cases z)⟩⟩
 ·obtain⟨u,ws,h1,h2,h3⟩:=h
  refine⟨_,h1,fun _ z=>?_,fun _ _ z=>?_⟩<;>(subst z;exact h2)
 ·exact h.elim
def bT7(H:Hp)(s:Sl)(v:V):Prop:=match s.m with
 | .val=>Rp H s.d v
 | _=>∃ p,v=.ref p/\eK H s.d p
theorem cZ{H:Hp}{s:Sl}{v:V}(h:s.m≠.val):bT7 H s v↔∃ p,v=.ref p/\eK H s.d p:=by
 obtain⟨m,d⟩:=s
 cases m with
 | val=>exact absurd rfl h
 | own=>exact Iff.rfl
 | par=>exact Iff.rfl
 | lent=>exact Iff.rfl
def Vw(H:Hp)(d:D)(v:V):Prop:=Rp H d v\/∃ p,v=.ref p/\eK H d p
theorem bT7.vw{H:Hp}{s:Sl}{v:V}(h:bT7 H s v):Vw H s.d v:=by
 by_cases e:s.m=.val
 ·obtain⟨m,d⟩:=s;cases e;exact .inl h
 ·exact .inr ((cZ e).mp h)
inductive Vws(H:Hp):List D->List V->Prop
 | nil:Vws H [] []
 | cons {d:D} {r:List D} {x:V} {xs:List V}:Vw H d x->Vws H r xs->Vws H (d::r) (x::xs)
def oC(σ:Sg)(σV:St)(a:Addr):Prop:=∃ (i:Nat) (s:Sl),σ[i]? = some (some s)/\s.m.mt=true/\σV[i]? = some (some (.ref a))
def bO0(σ:Sg)(σV:St)(a:Addr):Prop:=∃ (i:Nat) (s:Sl),σ[i]? = some (some s)/\s.m≠.val/\σV[i]? = some (some (.ref a))
theorem oC.nv{σ:Sg}{σV:St}{a:Addr}(h:oC σ σV a):bO0 σ σV a:=by
 obtain⟨i,s,h1,h2,h3⟩:=h
 exact⟨i,s,h1,fun z=>(by rw[z]at h2;cases h2),h3⟩
structure Gm where
 H₀:Hp
 pr:Addr->Prop
structure StOk(Γ:Gm)(H:Hp)(σ:Sg)(σV:St):Prop where
 rel:∀ (i:Nat) s,σ[i]? = some (some s)->∃ v,σV[i]? = some (some v)/\bT7 H s v
 dis:∀ (i j:Nat) s t p,i≠j->σ[i]? = some (some s)->σ[j]? = some (some t)->s.m.mt=true->t.m≠.val->σV[i]? = some (some (.ref p))->σV[j]? = some (some (.ref p))->False
 own:∀ (i:Nat) s p,σ[i]? = some (some s)->s.m=.own->σV[i]? = some (some (.ref p))->Γ.H₀ p=none
 par:∀ (i:Nat) s p,σ[i]? = some (some s)->s.m=.par->σV[i]? = some (some (.ref p))->Γ.pr p
 keep:∀ a o,Γ.H₀ a=some o->¬ Γ.pr a->H a=some o
 dom:∀ a,H a=none->Γ.H₀ a=none
 len:σ.length=σV.length
structure Step(σ:Sg)(σV:St)(H:Hp)(σ':Sg)(σV':St)(H':Hp):Prop where
 fr:∀ a o,H a=some o->¬ oC σ σV a->H' a=some o
 dom:∀ a,H' a=none->H a=none
 mu:∀ a,oC σ' σV' a->oC σ σV a\/H a=none
 nv:∀ a,bO0 σ' σV' a->bO0 σ σV a\/H a=none
 kp:∀ (i:Nat) s,σ[i]? = some (some s)->∃ s',σ'[i]? = some (some s')
 fix:∀ (i:Nat) s,σ[i]? = some (some s)->(s.m=.par\/s.m=.lent)->∃ s',σ'[i]? = some (some s')/\s'.m=s.m/\(s.m=.lent->s'.d=s.d)/\σV'[i]? = σV[i]?
 lt:∀ (i:Nat) s',σ'[i]? = some (some s')->s'.m=.lent->∃ s,σ[i]? = some (some s)/\s.m=.lent
section
variable{σ σ1 σ2:Sg}{σV σV1 σV2:St}{H H1 H2:Hp}{Γ:Gm}
theorem Step.refl:Step σ σV H σ σV H:=⟨fun _ _ h _=>h,fun _ h=>h,fun _ h=>.inl h,fun _ h=>.inl h,fun i s h=>⟨s,h⟩,fun i s h _=>⟨s,h,rfl,fun _=>rfl,rfl⟩,fun i s h m=>⟨s,h,m⟩⟩
theorem Step.trans(a:Step σ σV H σ1 σV1 H1)(b:Step σ1 σV1 H1 σ2 σV2 H2):Step σ σV H σ2 σV2 H2 where
 fr:=fun c o h n=>b.fr c o (a.fr c o h n) fun z=>by
  rcases a.mu c z with q | q
  ·exact n q
  ·rw[h]at q;cases q
 dom:=fun c h=>a.dom c (b.dom c h)
 mu:=fun c h=>by
  rcases b.mu c h with q | q
  ·exact a.mu c q
  ·exact .inr (a.dom c q)
 nv:=fun c h=>by
  rcases b.nv c h with q | q
  ·exact a.nv c q
  ·exact .inr (a.dom c q)
 kp:=fun i s h=>by
  obtain⟨s1,h1⟩:=a.kp i s h
  exact b.kp i s1 h1
 fix:=fun i s h hm=>by
  obtain⟨s1,h1,m1,d1,v1⟩:=a.fix i s h hm
  obtain⟨s2,h2,m2,d2,v2⟩:=b.fix i s1 h1 (by rw[m1];exact hm)
  exact⟨s2,h2,m2.trans m1,fun z=>(d2 (m1.trans z)).trans (d1 z),v2.trans v1⟩
 lt:=fun i s h m=>by
  obtain⟨s1,h1,m1⟩:=b.lt i s h m
  exact a.lt i s1 h1 m1
theorem StOk.mutObj(ok:StOk Γ H σ σV){a:Addr}(h:bO0 σ σV a):∃ o,H a=some o/\(∀ xs,o≠.tup xs)/\∀ ob u,o≠.frz ob u:=by
 obtain⟨i,s,h1,h2,h3⟩:=h
 obtain⟨v,e,r⟩:=ok.rel i s h1
 rw[h3]at e;cases e
 obtain⟨p,e,q⟩:=(cZ h2).mp r
 cases e
 exact q.obj
theorem Step.ext(st:Step σ σV H σ1 σV1 H1)(ok:StOk Γ H σ σV):Ext H H1:=by
 refine⟨fun p xs h=>st.fr p _ h fun z=>?_,fun p o u h=>st.fr p _ h fun z=>?_⟩
 ·obtain⟨o,e,n,_⟩:=ok.mutObj z.nv;rw[h]at e;cases e;exact n _ rfl
 ·obtain⟨o,e,_,n⟩:=ok.mutObj z.nv;rw[h]at e;cases e;exact n _ _ rfl
theorem bT7.mono{s:Sl}{v:V}(r:bT7 H s v)(e:Ext H H1)(hp:∀ p o,v=.ref p->s.m≠.val->H p=some o->H1 p=some o):bT7 H1 s v:=by
 by_cases q:s.m=.val
 ·obtain⟨m,d⟩:=s;cases q;exact Rp.mono e r
 ·obtain⟨p,e1,r1⟩:=(cZ q).mp r
  exact(cZ q).mpr ⟨p,e1,r1.mono e fun o=>hp p o e1 q⟩
theorem StOk.same(ok:StOk Γ H σ σV)(h:lX H H1):StOk Γ H1 σ σV:=
 ⟨fun i s e=>by
  obtain⟨v,e1,r⟩:=ok.rel i s e
  exact⟨v,e1,r.mono (.same h) fun p o _ _ q=>h p o q⟩,ok.dis,ok.own,ok.par,fun a o e n=>h a o (ok.keep a o e n),fun a e=>ok.dom a (by
  cases q:H a with
  | none=>rfl
  | some o=>rw[h a o q]at e;cases e),ok.len⟩
theorem aW1(h:lX H H1){a:Addr}(e:H1 a=none):H a=none:=by
 cases q:H a with
 | none=>rfl
 | some o=>rw[h a o q]at e;cases e
theorem Step.same(h:lX H H1):Step σ σV H σ σV H1:=⟨fun a o e _=>h a o e,fun a e=>aW1 h e,fun _ h=>.inl h,fun _ h=>.inl h,fun i s h=>⟨s,h⟩,fun i s h _=>⟨s,h,rfl,fun _=>rfl,rfl⟩,fun i s h m=>⟨s,h,m⟩⟩
end
inductive Res where
 | val (d:D) | own (d:D) | slot (i:Nat)
def jK(Γ:Gm)(H:Hp)(σ:Sg)(σV:St)(r:Res)(v:V):Prop:=match r with
 | .val d=>Rp H d v
 | .own d=>∃ p,v=.ref p/\eK H d p/\¬ bO0 σ σV p/\Γ.H₀ p=none
 | .slot i=>σV[i]? = some (some v)/\∃ s,σ[i]? = some (some s)
def rd(σ:Sg):Res->Option D
 | .val d=>some d
 | .own d=>some d
 | .slot i=>match σ[i]? with
   | some (some s)=>some s.d
   | _=>none
section
variable{σ σ1:Sg}{σV σV1:St}{H H1:Hp}{Γ:Gm}{r:Res}{v:V}{d:D}
theorem jK.vw(ok:StOk Γ H σ σV)(h:jK Γ H σ σV r v)(e:rd σ r=some d):Vw H d v:=by
 cases r with
 | val d'=>cases e;exact .inl h
 | own d'=>cases e;obtain⟨p,e1,e2,_⟩:=h;exact .inr ⟨p,e1,e2⟩
 | slot i=>
   obtain⟨h1,s,h2⟩:=h
   have e':some s.d=some d:=by
    have:rd σ (.slot i)=some s.d:=by show(match σ[i]? with | some (some s)=>some s.d | _=>none)=_;rw[h2]
    rw[← this];exact e
   cases e'
   obtain⟨w,e1,e2⟩:=ok.rel i s h2
   rw[h1]at e1;cases e1
   exact e2.vw
theorem jK.step(ok:StOk Γ H σ σV)(h:jK Γ H σ σV r v)(st:Step σ σV H σ1 σV H1):jK Γ H1 σ1 σV r v:=by
 cases r with
 | val d=>exact Rp.mono (st.ext ok) h
 | own d=>
   obtain⟨p,e1,e2,e3,e4⟩:=h
   obtain⟨o,ho,_⟩:=e2.obj
   refine⟨p,e1,e2.mono (st.ext ok) fun o h=>st.fr p o h fun z=>e3 z.nv,fun z=>?_,e4⟩
   rcases st.nv p z with q | q
   ·exact e3 q
   ·rw[ho]at q;cases q
 | slot i=>
   obtain⟨h1,s,h2⟩:=h
   exact⟨h1,st.kp i s h2⟩
end
abbrev DE:=Sg->Option (Res×Sg)
abbrev DT:=Sg->Option (Bool×Sg)
abbrev DA:=Sg->Option (List Res×Sg)
inductive ResOks(Γ:Gm)(H:Hp)(σ:Sg)(σV:St):List Res->List V->Prop
 | nil:ResOks Γ H σ σV [] []
 | cons {r:Res} {rs:List Res} {v:V} {vs:List V}:jK Γ H σ σV r v->ResOks Γ H σ σV rs vs->(∀ d p,r=.own d->v=.ref p->∀ (j:Nat) d',rs[j]? = some (.own d')->vs[j]? ≠ some (.ref p))->ResOks Γ H σ σV (r::rs) (v::vs)
def Frh(H:Hp)(r:Res)(v:V):Prop:=∀ d p,r=.own d->v=.ref p->H p=none
theorem fX{H:Hp}{d:D}{v:V}:Frh H (.val d) v:=fun _ _ e=>nomatch e
theorem Frh.back{H H1:Hp}{r:Res}{v:V}{σ σ1:Sg}{σV σV1:St}(f:Frh H1 r v)(st:Step σ σV H σ1 σV1 H1):Frh H r v:=fun d p e1 e2=>st.dom p (f d p e1 e2)
def dTE(Γ:Gm)(r:DE):TE:=fun σV H Q=>∃ σ,StOk Γ H σ σV/\∃ res σ',r σ=some (res,σ') /\
 ∀ v H',StOk Γ H' σ' σV->jK Γ H' σ' σV res v->Step σ σV H σ' σV H'->Frh H res v->Q v H'
end Dv
namespace Dv
open PySem L2
theorem peW{X:Cx}{e:Expr}{t t':TE}(h:PE X e t)(w:∀ σ H Q,t' σ H Q->t σ H Q):PE X e t':=fun pins s σ H Q I q=>h pins s σ H Q I (w σ H Q q)
theorem ptW{X:Cx}{e:Expr}{t t':TT}(h:PT X e t)(w:∀ σ H Q,t' σ H Q->t σ H Q):PT X e t':=fun pins s σ H Q I q=>h pins s σ H Q I (w σ H Q q)
theorem pwW{X:Cx}{e:Expr}{t t':TT}(h:PW X e t)(w:∀ σ H Q,t' σ H Q->t σ H Q):PW X e t':=fun wh pins s σ H Q I q=>h wh pins s σ H Q I (w σ H Q q)
theorem paW{X:Cx}{e:List Expr}{t t':TA}(h:PA X e t)(w:∀ σ H Q,t' σ H Q->t σ H Q):PA X e t':=fun pos pins s σ H Q I q=>h pos pins s σ H Q I (w σ H Q q)
theorem psW{X:Cx}{e:Stmt}{t t':TS}(h:PS X e t)(w:∀ D σ H,t' D σ H->t D σ H):PS X e t':=fun pins s σ H D I q=>h pins s σ H D I (w D σ H q)
theorem cW5{X:Cx}{e:List Stmt}{t t':TS}(h:PSs X e t)(w:∀ D σ H,t' D σ H->t D σ H):PSs X e t':=fun pins s σ H D I q=>h pins s σ H D I (w D σ H q)
structure GE(X:Cx)(e:Expr)(r:DE):Prop where
 to:∀ Γ,PE X e (dTE Γ r)
def dTT(Γ:Gm)(r:DT):TT:=fun σV H Q=>∃ σ,StOk Γ H σ σV/\∃ b σ',r σ=some (b,σ')/\∀ H',StOk Γ H' σ' σV->Step σ σV H σ' σV H'->Q b H'
structure GT(X:Cx)(e:Expr)(r:DT):Prop where
 to:∀ Γ,PT X e (dTT Γ r)
structure GW(X:Cx)(e:Expr)(r:DT):Prop where
 to:∀ Γ,PW X e (dTT Γ r)
theorem GW.gt{X:Cx}{e:Expr}{r:DT}(h:GW X e r):GT X e r:=.mk fun Γ=>(h.to Γ).pt
def dM9(H:Hp)(rs:List Res)(vs:List V):Prop:=∀ (j:Nat) d p,rs[j]? = some (.own d)->vs[j]? = some (.ref p)->H p=none
def dTA(Γ:Gm)(r:DA):TA:=fun σV H Q=>∃ σ,StOk Γ H σ σV/\∃ rs σ',r σ=some (rs,σ')/\∀ vs H',StOk Γ H' σ' σV->ResOks Γ H' σ' σV rs vs->Step σ σV H σ' σV H'->dM9 H rs vs->Q vs H'
structure GA(X:Cx)(es:List Expr)(r:DA):Prop where
 to:∀ Γ,PA X es (dTA Γ r)
def aM(i:Nat):DE:=fun σ=>match σ[i]? with
 | some (some s)=>some (if s.m=.val then .val s.d else .slot i,σ)
 | _=>none
theorem aB{X:Cx}{e:Expr}{i:Nat}(h:PE X e (aG5 i)):GE X e (aM i):=.mk fun Γ=>peW h fun σV H Q ⟨σ,ok,res,σ',e,k⟩=>by
 unfold aM at e
 split at e
 ·rename_i s hs
  cases e
  obtain⟨v,hv,r⟩:=ok.rel i s hs
  refine⟨v,hv,k v H ok ?_ .refl (by split<;>exact fun _ _ e=>nomatch e)⟩
  by_cases hm:s.m=.val
  ·rw[if_pos hm];obtain⟨m,d⟩:=s;cases hm;exact r
  ·rw[if_neg hm];exact⟨hv,s,hs⟩
 ·cases e
def dC(d:D):DE:=fun σ=>some (.val d,σ)
theorem cP6{X:Cx}{e:Expr}{v:V}{d:D}(h:PE X e (tC v))(hr:∀ H,Rp H d v):GE X e (dC d):=.mk fun Γ=>peW h fun σV H Q ⟨σ,ok,res,σ',e,k⟩=>by
 cases e;exact k v H ok (hr H) .refl fX
theorem ge_int{X:Cx}{i:Int}{j pos}:GE X (.Constant (.int i) j pos) (dC (.int i)):=cP6 aV fun _=>.int i
theorem aA1{X:Cx}{i:Bool}{j pos}:GE X (.Constant (.bool i) j pos) (dC (.bl i)):=cP6 dE1 fun _=>.bl i
theorem bJ{X:Cx}{i:Str}{j pos}:GE X (.Constant (.str i) j pos) (dC (.str i)):=cP6 aR2 fun _=>.str i
theorem yE{X:Cx}{j pos}:GE X (.Constant .none j pos) (dC .non):=cP6 cR4 fun _=>.non
theorem bT8{X:Cx}{x z:Str}{pos:Pos}(hg:Gl X x)(h:∃ t,X.mg x=some (.str z t))(hd:(x==("__debug__":Str))=false:=by decide):GE X (.Name x pos) (dC (.str z)):=cP6 (bR4 hg h hd) fun _=>.str z
theorem qH{X:Cx}{x:Str}{i:Int}{pos:Pos}(hg:Gl X x)(h:∃ t,X.mg x=some (.int i t))(hd:(x==("__debug__":Str))=false:=by decide):GE X (.Name x pos) (dC (.int i)):=cP6 (bR5 hg h hd) fun _=>.int i
def yF(H H':Hp)(r:Res)(v:V):Prop:=match r with
 | .val d=>Rp H' d v
 | .own d=>∃ p,v=.ref p/\H p=none/\eK H' d p
 | .slot _=>False
theorem yF.frh{H H':Hp}{r:Res}{v:V}(h:yF H H' r v):Frh H r v:=fun d p e1 e2=>by
 subst e1 e2
 obtain⟨q,e,h1,_⟩:=h
 cases e;exact h1
theorem yF.res{Γ:Gm}{H H':Hp}{σ:Sg}{σV:St}{r:Res}{v:V}(h:yF H H' r v)(ok:StOk Γ H σ σV):jK Γ H' σ σV r v:=by
 cases r with
 | val d=>exact h
 | own d=>
   obtain⟨p,e1,e2,e3⟩:=h
   refine⟨p,e1,e3,fun z=>?_,ok.dom p e2⟩
   obtain⟨o,e,_⟩:=ok.mutObj z
   rw[e2]at e;cases e
 | slot i=>exact h.elim
abbrev F1:=D->Option Res
abbrev F2:=D->D->Option Res
abbrev FN:=List D->Option Res
def cP7(rr:V->Hp->VK->Prop)(f:F1):Prop:=∀ H d x Q res,Vw H d x->f d=some res->(∀ v H',lX H H'->yF H H' res v->Q v H')->rr x H Q
def pJ(rr:R2)(f:F2):Prop:=∀ H d1 d2 x y Q res,Vw H d1 x->Vw H d2 y->f d1 d2=some res->(∀ v H',lX H H'->yF H H' res v->Q v H')->rr x y H Q
def cJ3(rr:List V->Hp->VK->Prop)(f:FN):Prop:=∀ H ds vs Q res,Vws H ds vs->f ds=some res->(∀ v H',lX H H'->yF H H' res v->Q v H')->rr vs H Q
def aW2(f:F1)(ra:DE):DE:=fun σ=>(ra σ).bind fun x=>(rd x.2 x.1).bind fun d=>(f d).bind fun r=>some (r,x.2)
def bA(f:F2)(ra rb:DE):DE:=fun σ=>(ra σ).bind fun x=>(rb x.2).bind fun y=>(rd y.2 x.1).bind fun d=>(rd y.2 y.1).bind fun e=>(f d e).bind fun r=>some (r,y.2)
theorem bind_some{α β:Type}{o:Option α}{f:α->Option β}{b:β}(h:o.bind f=some b):∃ a,o=some a/\f a=some b:=by
 cases o with
 | none=>cases h
 | some a=>exact⟨a,rfl,h⟩
theorem qI{Γ:Gm}{rr:R2}{f:F2}(hp:pJ rr f){ra rb:DE}{σV:St}{H:Hp}{Q:VK}(h:dTE Γ (bA f ra rb) σV H Q):tOp rr (dTE Γ ra) (dTE Γ rb) σV H Q:=by
 obtain⟨σ,ok,res,σ',e,k⟩:=h
 obtain⟨⟨x,σ1⟩,e1,e⟩:=bind_some e
 obtain⟨⟨y,σ2⟩,e2,e⟩:=bind_some e
 obtain⟨d1,e3,e⟩:=bind_some e
 obtain⟨d2,e4,e⟩:=bind_some e
 obtain⟨r,e5,e⟩:=bind_some e
 cases e
 refine⟨σ,ok,x,σ1,e1,fun v1 H1 ok1 r1 st1 _=>⟨σ1,ok1,y,σ2,e2,fun v2 H2 ok2 r2 st2 _=>?_⟩⟩
 have r1':=r1.step ok1 st2
 refine hp H2 d1 d2 v1 v2 Q _ (r1'.vw ok2 e3) (r2.vw ok2 e4) e5 fun v H' sm nw=>?_
 exact k v H' (ok2.same sm) (nw.res ok2) ((st1.trans st2).trans (.same sm)) (nw.frh.back (st1.trans st2))
theorem aK0{Γ:Gm}{rr:V->Hp->VK->Prop}{f:F1}(hp:cP7 rr f){ra:DE}{σV:St}{H:Hp}{Q:VK}(h:dTE Γ (aW2 f ra) σV H Q):tUn rr (dTE Γ ra) σV H Q:=by
 obtain⟨σ,ok,res,σ',e,k⟩:=h
 obtain⟨⟨x,σ1⟩,e1,e⟩:=bind_some e
 obtain⟨d1,e3,e⟩:=bind_some e
 obtain⟨r,e5,e⟩:=bind_some e
 cases e
 refine⟨σ,ok,x,σ1,e1,fun v1 H1 ok1 r1 st1 _=>?_⟩
 refine hp H1 d1 v1 Q _ (r1.vw ok1 e3) e5 fun v H' sm nw=>?_
 exact k v H' (ok1.same sm) (nw.res ok1) (st1.trans (.same sm)) (nw.frh.back st1)
section
variable{X:Cx}{a b:Expr}{ra rb:DE}{pos:Pos}
theorem aT{op:Operator}{rr:R2}{f:F2}(ho:OpR X (binaryOp op) rr)(hp:pJ rr f)(ha:GE X a ra)(hb:GE X b rb):GE X (.BinOp a op b pos) (bA f ra rb):=
 .mk fun Γ=>peW (fP ho (ha.to Γ) (hb.to Γ)) fun _ _ _=>qI hp
theorem cW6{op:UnaryOp}{rr:V->Hp->VK->Prop}{f:F1}(ho:UnR X (unaryOp op) rr)(hp:cP7 rr f)(ha:GE X a ra):GE X (.UnaryOp op a pos) (aW2 f ra):=
 .mk fun Γ=>peW (dE7 ho (ha.to Γ)) fun _ _ _=>aK0 hp
theorem jX{op:CmpOp}{rr:R2}{f:F2}(ho:OpR X (compareOp op) rr)(hp:pJ rr f)(ha:GE X a ra)(hb:GE X b rb)(hm:behindInMarks op b=false):GE X (.Compare a [op] [b] pos) (bA f ra rb):=
 .mk fun Γ=>peW (cF7 ho (ha.to Γ) (hb.to Γ) hm) fun _ _ _=>qI hp
def eQ(r:DE):DT:=fun σ=>(r σ).bind fun x=>(rd x.2 x.1).bind fun d=>match d with
 | .bl b=>some (b,x.2)
 | _=>none
theorem vW{r:DE}{σ σ':Sg}{b:Bool}(h:eQ r σ=some (b,σ')):∃ x,r σ=some (x,σ')/\rd σ' x=some (.bl b):=by
 obtain⟨⟨x,σ1⟩,e1,e⟩:=bind_some h
 obtain⟨d,e2,e⟩:=bind_some e
 dsimp only at e e2
 split at e
 ·cases e;exact⟨x,e1,e2⟩
 ·cases e
theorem aA2{H:Hp}{b:Bool}{v:V}(h:Vw H (.bl b) v):v=.bl b:=by
 rcases h with h | ⟨p,_,h⟩
 ·cases h;rfl
 ·exact h.elim
theorem vX{Γ:Gm}{r:DE}{σV:St}{H:Hp}{Q:Bool->Hp->Prop}(h:dTT Γ (eQ r) σV H Q):dTE Γ r σV H (fun x H'=>∃ k,x=.bl k/\Q k H'):=by
 obtain⟨σ,ok,b,σ',e,k⟩:=h
 obtain⟨x,e1,e2⟩:=vW e
 refine⟨σ,ok,x,σ',e1,fun v H' ok' r' st _=>⟨b,aA2 (r'.vw ok' e2),k H' ok' st⟩⟩
theorem cG{op:CmpOp}{rr:R2}{f:F2}(ho:OpR X (compareOp op) rr)(hp:pJ rr f)(ha:GE X a ra)(hb:GE X b rb)(hm:behindInMarks op b=false):GT X (.Compare a [op] [b] pos) (eQ (bA f ra rb)):=
 .mk fun Γ=>ptW (cN ho (ha.to Γ) (hb.to Γ) hm) fun σ H Q h=>qI hp (vX h)
theorem tM{e:Expr}{r:DE}(h:GE X e r)(he:∀ whole,isTrue e X.env whole=(do let v ← whole;standAt e.pos;holding [v] (truthy v)):=by intro _;rfl):GT X e (eQ r):=
 .mk fun Γ=>ptW (cR5 (h.to Γ) he) fun _ _ _ h=>vX h
end
theorem fY{H:Hp}{l:List D}{v:V}(h:Vw H (.tup l) v):∃ p xs,v=.ref p/\H p=some (.tup xs)/\Rps H l xs:=by
 rcases h with h | ⟨p,_,h⟩
 ·cases h with
  | tup h r=>exact⟨_,_,rfl,h,r⟩
 ·exact h.elim
theorem jE{H:Hp}{l:List D}{v:V}(h:Vw H (.lst l) v):∃ p xs,v=.ref p/\eP H p=some (true,xs)/\Rps H l xs:=by
 rcases h with h | ⟨p,e,xs,h,r⟩
 ·cases h with
  | lst h r=>exact⟨_,_,rfl,bQ9 h,r⟩
 ·exact⟨p,xs,e,aU h,r⟩
theorem dB{H:Hp}{i:Int}{v:V}(h:Vw H (.int i) v):v=.int i:=by
 rcases h with h | ⟨p,_,h⟩
 ·cases h;rfl
 ·exact h.elim
theorem lB{H:Hp}{i:Str}{v:V}(h:Vw H (.str i) v):v=.str i:=by
 rcases h with h | ⟨p,_,h⟩
 ·cases h;rfl
 ·exact h.elim
theorem cC7{H:Hp}{v:V}(h:Vw H .non v):v=.non:=by
 rcases h with h | ⟨p,_,h⟩
 ·cases h;rfl
 ·exact h.elim
def cP8:D->Option (Bool×List D)
 | .lst l=>some (true,l)
 | .tup l=>some (false,l)
 | _=>none
theorem cW7{H:Hp}{d:D}{v:V}{b:Bool}{l:List D}(h:Vw H d v)(e:cP8 d=some (b,l)):∃ p xs,v=.ref p/\eP H p=some (b,xs)/\Rps H l xs:=by
 cases d with
 | lst l'=>cases e;exact jE h
 | tup l'=>cases e;obtain⟨p,xs,e1,e2,e3⟩:=fY h;exact⟨p,xs,e1,cJ e2,e3⟩
 | _=>cases e
section
variable{X:Cx}{a b:Expr}{ra rb:DE}{pos:Pos}
variable{tA tB:DT}{dI:List Expr}
def cJ4(t u:DT):DT:=fun σ=>(t σ).bind fun x=>if x.1=true then u x.2 else some (false,x.2)
def dOr(t u:DT):DT:=fun σ=>(t σ).bind fun x=>if x.1=true then some (true,x.2)else u x.2
def bO1(t:DT):DT:=fun σ=>(t σ).bind fun x=>some (!x.1,x.2)
theorem aA3(ha:GT X a tA):GW X (.BoolOp .And [a] pos) tA:=.mk fun Γ=>qR (ha.to Γ)
theorem yG(ha:GT X a tA):GW X (.BoolOp .Or [a] pos) tA:=.mk fun Γ=>cR6 (ha.to Γ)
theorem aW3(ha:GT X a tA)(hb:GW X (.BoolOp .And (b::dI) pos) tB):GW X (.BoolOp .And (a::b::dI) pos) (cJ4 tA tB):=.mk fun Γ=>pwW (tD (ha.to Γ) (hb.to Γ)) fun σV H Q ⟨σ,ok,c,σ',e,k⟩=>by
 obtain⟨⟨x,σ1⟩,e1,e⟩:=bind_some e
 refine⟨σ,ok,x,σ1,e1,fun H1 ok1 st1=>?_⟩
 dsimp only at e
 split at e
 ·rename_i hx;rw[if_pos hx];exact⟨σ1,ok1,c,σ',e,fun H2 ok2 st2=>k H2 ok2 (st1.trans st2)⟩
 ·rename_i hx;rw[if_neg hx];cases e;exact k H1 ok1 st1
theorem aW4(ha:GT X a tA)(hb:GW X (.BoolOp .Or (b::dI) pos) tB):GW X (.BoolOp .Or (a::b::dI) pos) (dOr tA tB):=.mk fun Γ=>pwW (dE2 (ha.to Γ) (hb.to Γ)) fun σV H Q ⟨σ,ok,c,σ',e,k⟩=>by
 obtain⟨⟨x,σ1⟩,e1,e⟩:=bind_some e
 refine⟨σ,ok,x,σ1,e1,fun H1 ok1 st1=>?_⟩
 dsimp only at e
 split at e
 ·rename_i hx;rw[if_pos hx];cases e;exact k H1 ok1 st1
 ·rename_i hx;rw[if_neg hx];exact⟨σ1,ok1,c,σ',e,fun H2 ok2 st2=>k H2 ok2 (st1.trans st2)⟩
theorem rE(ha:GT X a tA):GT X (.UnaryOp .Not a pos) (bO1 tA):=.mk fun Γ=>ptW (cR7 (ha.to Γ)) fun σV H Q ⟨σ,ok,c,σ',e,k⟩=>by
 obtain⟨⟨x,σ1⟩,e1,e⟩:=bind_some e
 cases e
 exact⟨σ,ok,x,_,e1,fun H1 ok1 st1=>k H1 ok1 st1⟩
def pK(t u:DE):DE:=fun σ=>(eQ t σ).bind fun x=>if x.1=true then u x.2 else some (.val (.bl false),x.2)
def bT9(t:DE):DE:=fun σ=>(eQ t σ).bind fun x=>some (.val (.bl (!x.1)),x.2)
theorem oV{op}{r:DE}(h:GE X a r):GE X (.BoolOp op [a] pos) r:=.mk fun Γ=>aR3 (h.to Γ)
theorem mY(ha:GE X a ra)(hb:GE X (.BoolOp .And (b::dI) pos) rb):GE X (.BoolOp .And (a::b::dI) pos) (pK ra rb):=.mk fun Γ=>peW (aR4 (ha.to Γ) (hb.to Γ)) fun σV H Q ⟨σ,ok,c,σ',e,k⟩=>by
 obtain⟨⟨x,σ1⟩,e1,e⟩:=bind_some e
 obtain⟨y,e2,e3⟩:=vW e1
 refine⟨σ,ok,y,σ1,e2,fun v H1 ok1 r1 st1 _=>⟨x,aA2 (r1.vw ok1 e3),?_⟩⟩
 dsimp only at e
 split at e
 ·rename_i hx;rw[if_pos hx];exact⟨σ1,ok1,c,σ',e,fun v2 H2 ok2 r2 st2 f2=>k v2 H2 ok2 r2 (st1.trans st2) (f2.back st1)⟩
 ·rename_i hx;rw[if_neg hx];cases e;exact k _ H1 ok1 (.bl false) st1 fX
theorem cW8(ha:GE X a ra):GE X (.UnaryOp .Not a pos) (bT9 ra):=.mk fun Γ=>peW (cA3 (ha.to Γ)) fun σV H Q ⟨σ,ok,c,σ',e,k⟩=>by
 obtain⟨⟨x,σ1⟩,e1,e⟩:=bind_some e
 obtain⟨y,e2,e3⟩:=vW e1
 cases e
 exact⟨σ,ok,y,_,e2,fun v H1 ok1 r1 st1 _=>⟨x,aA2 (r1.vw ok1 e3),k _ H1 ok1 (.bl _) st1 fX⟩⟩
def mZ(f g:F2)(ra rb rc:DE):DE:=fun σ=>(ra σ).bind fun x=>(rb x.2).bind fun y=>(rd y.2 x.1).bind fun d=>(rd y.2 y.1).bind fun e=>match f d e with
 | some (.val (.bl true))=>(rc y.2).bind fun z=>(rd z.2 y.1).bind fun e=>(rd z.2 z.1).bind fun h=>(g e h).bind fun r=>some (r,z.2)
 | some (.val (.bl false))=>some (.val (.bl false),y.2)
 | _=>none
theorem tN{Γ:Gm}{rr rr':R2}{f g:F2}(hp:pJ rr f)(hp':pJ rr' g){ra rb rc:DE}{σV:St}{H:Hp}{Q:VK}(h:dTE Γ (mZ f g ra rb rc) σV H Q):aG7 rr rr' (dTE Γ ra) (dTE Γ rb) (dTE Γ rc) σV H Q:=by
 obtain⟨σ,ok,res,σ',e,k⟩:=h
 obtain⟨⟨x,σ1⟩,e1,e⟩:=bind_some e
 obtain⟨⟨y,σ2⟩,e2,e⟩:=bind_some e
 obtain⟨d1,e3,e⟩:=bind_some e
 obtain⟨d2,e4,e⟩:=bind_some e
 refine⟨σ,ok,x,σ1,e1,fun v1 H1 ok1 r1 st1 _=>⟨σ1,ok1,y,σ2,e2,fun v2 H2 ok2 r2 st2 _=>?_⟩⟩
 have r1':=r1.step ok1 st2
 dsimp only at e
 split at e
 ·rename_i hf
  obtain⟨⟨z,σ3⟩,e5,e⟩:=bind_some e
  obtain⟨d2',e6,e⟩:=bind_some e
  obtain⟨d3,e7,e⟩:=bind_some e
  obtain⟨r,e8,e⟩:=bind_some e
  cases e
  refine hp H2 d1 d2 v1 v2 _ _ (r1'.vw ok2 e3) (r2.vw ok2 e4) hf fun v H' sm nw=>?_
  have ok3:=ok2.same sm
  cases nw
  refine⟨true,rfl,?_⟩
  rw[if_pos rfl]
  refine⟨σ2,ok3,z,_,e5,fun v4 H4 ok4 r4 st4 _=>?_⟩
  have r2':=(r2.step ok2 (.same sm)).step ok3 st4
  refine hp' H4 d2' d3 v2 v4 Q _ (r2'.vw ok4 e6) (r4.vw ok4 e7) e8 fun v H' sm' nw'=>?_
  exact k v H' (ok4.same sm') (nw'.res ok4) ((((st1.trans st2).trans (.same sm)).trans st4).trans (.same sm')) (nw'.frh.back (((st1.trans st2).trans (.same sm)).trans st4))
 ·rename_i hf
  cases e
  refine hp H2 d1 d2 v1 v2 _ _ (r1'.vw ok2 e3) (r2.vw ok2 e4) hf fun v H' sm nw=>?_
  cases nw
  refine⟨false,rfl,?_⟩
  rw[if_neg Bool.false_ne_true]
  exact k _ H' (ok2.same sm) (.bl false) ((st1.trans st2).trans (.same sm)) fX
 ·cases e
theorem vY{c:Expr}{rc:DE}{op op':CmpOp}{rr rr':R2}{f g:F2}(ho:OpR X (compareOp op) rr)(hp:pJ rr f)(ho':OpR X (compareOp op') rr')(hp':pJ rr' g)(ha:GE X a ra)(hb:GE X b rb)(hc:GE X c rc)
  (hm:lastMarks [op,op'] [b,c]=false:=by with_unfolding_all rfl):GE X (.Compare a [op,op'] [b,c] pos) (mZ f g ra rb rc):=.mk fun Γ=>peW (bP1 ho ho' (ha.to Γ) (hb.to Γ) (hc.to Γ) hm) fun _ _ _=>tN hp hp'
theorem bU0{c:Expr}{rc:DE}{op op':CmpOp}{rr rr':R2}{f g:F2}(ho:OpR X (compareOp op) rr)(hp:pJ rr f)(ho':OpR X (compareOp op') rr')(hp':pJ rr' g)(ha:GE X a ra)(hb:GE X b rb)(hc:GE X c rc)
  (hm:lastMarks [op,op'] [b,c]=false:=by with_unfolding_all rfl):GT X (.Compare a [op,op'] [b,c] pos) (eQ (mZ f g ra rb rc)):=.mk fun Γ=>ptW (bP2 ho ho' (ha.to Γ) (hb.to Γ) (hc.to Γ) hm) fun _ _ _ h=>tN hp hp' (vX h)
end
end Dv
namespace Dv
open PySem L2
def Fz:HO->Prop
 | .lst _=>True
 | .dK _=>True
 | .dT _=>True
 | _=>False
theorem cJ5{X:Cx}{pins:List (Addr×Obj)}{σ:St}{H:Hp}{s:Shared}{p:Addr}{u:HO}(I:Inv X pins σ H s)(h:H p=some u)(hu:Fz u):∃ o,Inv X pins σ (upd H p (.frz o u)) s:=by
 have nt:∀ b xs,H b=some (.tup xs)->b≠p:=fun b xs e z=>by subst z;rw[h]at e;cases e;exact hu
 have nf:∀ b o x,H b=some (.frz o x)->b≠p:=fun b o x e z=>by subst z;rw[h]at e;cases e;exact hu
 have no:∀ b x,H b=some (.own x)->b≠p:=fun b x e z=>by subst z;rw[h]at e;cases e;exact hu
 have nb:∀ b x,H b=some (.tbl x)->b≠p:=fun b x e z=>by subst z;rw[h]at e;cases e;exact hu
 have nn:∀ b,H b=none->b≠p:=fun b e z=>by subst z;rw[h]at e;cases e
 obtain⟨o,ho⟩:∃ o,s.heap.get? p=some o:=by
  have:=I.hok p u h
  have l:=this.lt
  cases q:s.heap.get? p with
  | some o=>exact⟨o,rfl⟩
  | none=>
    cases u with
    | lst xs=>obtain⟨_,_,_,_,e⟩:=this;rw[q]at e;cases e
    | dK kvs=>obtain⟨_,_,_,_,ob,_,_,e,_⟩:=this;rw[q]at e;cases e
    | dT kvs=>obtain⟨_,_,_,_,ob,_,_,e,_⟩:=this;rw[q]at e;cases e
    | _=>exact hu.elim
 have st:∀ a x,dM X.prog X.w H s.heap a x->dM X.prog X.w (upd H p (.frz o u)) s.heap a x:=fun a x k=>
  k.stay (fun _ _ _ e=>e) (fun b e=>by rw[aF (no b _ e)];exact e) fun b xs e=>by rw[aF (nt b _ e)];exact e
 refine⟨o,{I with base:=?_,free:=?_,freeC:=?_,pin:=?_,hok:=?_}⟩
 ·exact⟨I.base.keep,I.base.slot,fun b ob q n hx=>by
    have:=I.base.free b ob q n hx
    rw[aF (nn b this)];exact this,I.base.there,fun b xs e=>by
    have:=I.base.tups b xs e
    rw[aF (nt b _ this)];exact this,fun b ob x e=>by
    have:=I.base.frzs b ob x e
    rw[aF (nf b _ _ this)];exact this,fun b ps e=>by
    obtain⟨m,e2⟩:=I.base.tbls b ps e
    exact⟨m,by rw[aF (nb b _ e2)];exact e2⟩⟩
 ·rw[aF (nn _ I.free)];exact I.free
 ·intro x c e;rw[aF (nn _ (I.freeC x c e))];exact I.freeC x c e
 ·intro q hq
  obtain⟨h1,h2,h3⟩:=I.pin q hq
  exact⟨h1,by rw[aF (nn _ h2)];exact h2,h3⟩
 ·intro a x e
  by_cases ha:a=p
  ·subst ha
   rw[aG]at e;cases e
   exact⟨ho,st a u (I.hok a u h)⟩
  ·rw[aF ha]at e
   exact st a x (I.hok a x e)
def tFz(t:TE):TE:=fun σ H Q=>t σ H fun v H1=>Q v H1\/∃ p u,v=.ref p/\H1 p=some u/\Fz u/\∀ o,Q v (upd H1 p (.frz o u))
theorem dG7{X:Cx}{e:Expr}{t:TE}(h:PE X e t):PE X e (tFz t):=fun pins s σ H Q I q=>
 thn (h pins s σ H _ I q) fun u s1 ⟨v,H1,I1,r1,q1⟩=>by
  rcases q1 with q1 | ⟨p,x,e1,e2,e3,q1⟩
  ·exact⟨v,H1,I1,r1,q1⟩
  ·obtain⟨o,I2⟩:=cJ5 I1 e2 e3
   exact⟨v,_,I2,r1,q1 o⟩
theorem aW5{H:Hp}{d:D}{p:Addr}(h:eK H d p):∃ u,H p=some u/\Fz u/\∀ o H',Ext H H'->H' p=some (.frz o u)->Rp H' d (.ref p):=by
 unfold eK at h
 split at h
 ·obtain⟨xs,h1,h2⟩:=h
  exact⟨_,h1,True.intro,fun o H' x e=>.lst e (h2.mono x)⟩
 ·obtain⟨u,ws,h1,h2,h3⟩:=h
  refine⟨u,h1,?_,fun o H' x e=>.dic e h2 (h3.mono x)⟩
  cases u with
  | dK _=>exact True.intro
  | dT _=>exact True.intro
  | _=>exact h2.elim
 ·exact h.elim
theorem aW6{H:Hp}{p:Addr}{u:HO}{o:Obj}(h:H p=some u)(hu:Fz u):Ext H (upd H p (.frz o u)):=
 ⟨fun b xs e=>by rw[aF (fun z=>by subst z;rw[h]at e;cases e;exact hu)];exact e,fun b ob x e=>by rw[aF (fun z=>by subst z;rw[h]at e;cases e;exact hu)];exact e⟩
def dK0(σ:Sg):Res->Option (D×Sg)
 | .val d=>some (d,σ)
 | .own d=>some (d,σ)
 | .slot i=>match σ[i]? with
   | some (some s)=>if s.m=.own then some (s.d,σ.set i (some ⟨.val,s.d⟩))else if s.m=.val then some (s.d,σ)else none
   | _=>none
def dFz(r:DE):DE:=fun σ=>(r σ).bind fun x=>(dK0 x.2 x.1).bind fun y=>some (.val y.1,y.2)
theorem bU{α:Type}{l:List α}{i j:Nat}{x y:α}(h:(l.set i x)[j]? = some y):(j=i/\y=x/\i < l.length)\/(j≠i/\l[j]? = some y):=by
 rw[List.getElem?_set]at h
 split at h
 ·rename_i e
  split at h
  ·cases h;exact .inl ⟨e.symm,rfl,by assumption⟩
  ·cases h
 ·rename_i e;exact .inr ⟨fun z=>e z.symm,h⟩
theorem dU{X:Cx}{e:Expr}{r:DE}(h:GE X e r):GE X e (dFz r):=.mk fun Γ=>peW (dG7 (h.to Γ)) fun σV H Q ⟨σ,ok,res,σ',e,k⟩=>by
 obtain⟨⟨x,σ1⟩,e1,e⟩:=bind_some e
 obtain⟨⟨d,σ2⟩,e2,e⟩:=bind_some e
 cases e
 refine⟨σ,ok,x,σ1,e1,fun v H1 ok1 r1 st1 f1=>?_⟩
 dsimp only at e2
 cases x with
 | val d'=>cases e2;exact .inl (k v H1 ok1 r1 st1 fX)
 | own d'=>
   cases e2
   obtain⟨p,rfl,h1,h2,h3⟩:=r1
   obtain⟨u,q1,q2,q3⟩:=aW5 h1
   have hn:H p=none:=f1 _ p rfl rfl
   refine .inr ⟨p,u,rfl,q1,q2,fun o=>?_⟩
   have x:=aW6 (o:=o) q1 q2
   refine k _ _ ⟨fun i s e=>?_,ok1.dis,ok1.own,ok1.par,fun a ob e n=>?_,fun a e=>?_,ok1.len⟩ (q3 o _ x aG) ⟨fun a ob e n=>?_,fun a e=>?_,st1.mu,st1.nv,st1.kp,st1.fix,st1.lt⟩ fX
   ·obtain⟨w,ew,rw'⟩:=ok1.rel i s e
    refine⟨w,ew,rw'.mono x fun q ob eq m e2=>?_⟩
    rw[aF (fun z=>h2 ⟨i,s,e,m,by rw[ew,eq,z]⟩)];exact e2
   ·rw[aF (fun z=>by subst z;rw[h3]at e;cases e)];exact ok1.keep a ob e n
   ·by_cases z:a=p
    ·subst z;rw[aG]at e;cases e
    ·rw[aF z]at e;exact ok1.dom a e
   ·rw[aF (fun z=>by subst z;rw[hn]at e;cases e)];exact st1.fr a ob e n
   ·by_cases z:a=p
    ·subst z;rw[aG]at e;cases e
    ·rw[aF z]at e;exact st1.dom a e
 | slot i=>
   obtain⟨r1,s,hs⟩:=r1
   have e2':(match σ1[i]? with | some (some s)=>if s.m=.own then some (s.d,σ1.set i (some ⟨.val,s.d⟩))else if s.m=.val then some (s.d,σ1)else none | _=>none)=some (d,σ2):=e2
   rw[hs]at e2'
   dsimp only at e2'
   obtain⟨w,ew,rw'⟩:=ok1.rel i s hs
   rw[r1]at ew;cases ew
   split at e2'
   ·rename_i hm
    cases e2'
    obtain⟨m,d⟩:=s
    cases hm
    obtain⟨p,rfl,h1⟩:=(cZ (s:=⟨.own,d⟩) (fun z=>nomatch z)).mp rw'
    obtain⟨u,q1,q2,q3⟩:=aW5 h1
    refine .inr ⟨p,u,rfl,q1,q2,fun o=>?_⟩
    have x:=aW6 (o:=o) q1 q2
    have rp:=q3 o _ x aG
    have il:i < σ1.length:=(List.getElem?_eq_some_iff.mp hs).1
    have pm:oC σ1 σV p:=⟨i,_,hs,rfl,r1⟩
    have sub:∀ (j:Nat) t,(σ1.set i (some ⟨.val,d⟩))[j]? = some (some t)->t.m≠.val->j≠i/\σ1[j]? = some (some t):=fun j t ej hm=>by
     rcases bU ej with⟨_,z,_⟩ | z
     ·cases z;exact absurd rfl hm
     ·exact z
    have mtv:∀ t:Sl,t.m.mt=true->t.m≠.val:=fun t h z=>by rw[z]at h;cases h
    refine k _ _ ⟨fun j t ej=>?_,fun j l t t' q n ej el m m'=>?_,fun j t q ej m=>?_,fun j t q ej m=>?_,fun a ob e n=>?_,fun a e=>?_,?_⟩ rp
     ⟨fun a ob e n=>?_,fun a e=>?_,fun a ⟨j,t,ej,m,ea⟩=>?_,fun a ⟨j,t,ej,m,ea⟩=>?_,fun j t ej=>?_,fun j t ej m=>?_,fun j t ej m=>st1.lt j t (sub j t ej (by rw[m];exact fun z=>nomatch z)).2 m⟩ fX
    ·rcases bU ej with⟨z,z2,_⟩ | ⟨z,z2⟩
     ·cases z2;rw[z];exact⟨_,r1,rp⟩
     ·obtain⟨w,ew,rw2⟩:=ok1.rel j t z2
      refine⟨w,ew,rw2.mono x fun q ob eq m e2=>?_⟩
      rw[aF (fun y=>ok1.dis i j _ t p (Ne.symm z) hs z2 rfl m r1 (by rw[ew,eq,y]))];exact e2
    ·exact ok1.dis j l t t' q n (sub j t ej (mtv t m)).2 (sub l t' el m').2 m m'
    ·exact ok1.own j t q (sub j t ej (by rw[m];exact fun z=>nomatch z)).2 m
    ·exact ok1.par j t q (sub j t ej (by rw[m];exact fun z=>nomatch z)).2 m
    ·have hp:=ok1.own i _ p hs rfl r1
     rw[aF (fun z=>by subst z;rw[hp]at e;cases e)];exact ok1.keep a ob e n
    ·by_cases z:a=p
     ·subst z;rw[aG]at e;cases e
     ·rw[aF z]at e;exact ok1.dom a e
    ·rw[List.length_set];exact ok1.len
    ·by_cases z:a=p
     ·subst z
      rcases st1.mu a pm with y | y
      ·exact absurd y n
      ·rw[e]at y;cases y
     ·rw[aF z];exact st1.fr a ob e n
    ·by_cases z:a=p
     ·subst z;rw[aG]at e;cases e
     ·rw[aF z]at e;exact st1.dom a e
    ·exact st1.mu a ⟨j,t,(sub j t ej (mtv t m)).2,m,ea⟩
    ·exact st1.nv a ⟨j,t,(sub j t ej m).2,m,ea⟩
    ·obtain⟨t',et⟩:=st1.kp j t ej
     by_cases z:j=i
     ·subst z;exact⟨_,by rw[List.getElem?_set_self il]⟩
     ·exact⟨t',by rw[List.getElem?_set_ne (Ne.symm z)];exact et⟩
    ·obtain⟨t',et,h⟩:=st1.fix j t ej m
     refine⟨t',?_,h⟩
     rw[List.getElem?_set_ne (fun z=>?_)]
     ·exact et
     ·subst z
      rw[hs]at et
      cases et
      rcases m with m | m
      ·have:=h.1;rw[m]at this;cases this
      ·have:=h.1;rw[m]at this;cases this
   ·split at e2'
    ·rename_i hm
     cases e2'
     obtain⟨m,d⟩:=s
     cases hm
     exact .inl (k v H1 ok1 rw' st1 fX)
    ·cases e2'
end Dv
namespace Dv
open PySem L2
def bD:DA:=fun σ=>some ([],σ)
def aC(r:DE)(rs:DA):DA:=fun σ=>(r σ).bind fun x=>(rs x.2).bind fun y=>some (x.1::y.1,y.2)
def rds(σ:Sg):List Res->Option (List D)
 | []=>some []
 | r::rs=>(rd σ r).bind fun d=>(rds σ rs).bind fun ds=>some (d::ds)
def vals:List Res->Option (List D)
 | []=>some []
 | .val d::rs=>(vals rs).bind fun ds=>some (d::ds)
 | _=>none
theorem rF{Γ:Gm}{H:Hp}{σ:Sg}{σV:St}(ok:StOk Γ H σ σV):∀ {rs:List Res} {vs:List V} {ds:List D},ResOks Γ H σ σV rs vs->rds σ rs=some ds->Vws H ds vs
 | _,_,_,.nil,e=>by cases e;exact .nil
 | _,_,_,.cons h t _,e=>by
   obtain⟨d,e1,e⟩:=bind_some e
   obtain⟨ds,e2,e⟩:=bind_some e
   cases e
   exact .cons (h.vw ok e1) (rF ok t e2)
theorem qJ{Γ:Gm}{H:Hp}{σ:Sg}{σV:St}:∀ {rs:List Res} {vs:List V} {ds:List D},ResOks Γ H σ σV rs vs->vals rs=some ds->Rps H ds vs
 | _,_,_,.nil,e=>by cases e;exact .nil
 | .val d::_,_,_,.cons h t _,e=>by
   obtain⟨ds,e2,e⟩:=bind_some e
   cases e
   exact .cons h (qJ t e2)
 | .own d::_,_,_,.cons h t _,e=>by cases e
 | .slot d::_,_,_,.cons h t _,e=>by cases e
section
variable{X:Cx}{e:Expr}{es:List Expr}{r:DE}{rs:DA}{pos:Pos}
theorem aI:GA X [] bD:=.mk fun Γ=>paW aN fun σV H Q ⟨σ,ok,res,σ',e,k⟩=>by
 cases e;exact k [] H ok .nil .refl (fun j d p e=>by simp at e)
theorem aA(ha:GE X e r)(hr:GA X es rs)(hs:starEach (e::es) X.env=(false,eval e X.env)::starEach es X.env:=by kernel_rfl):GA X (e::es) (aC r rs):=.mk fun Γ=>paW (aD (ha.to Γ) (hr.to Γ) hs) fun σV H Q ⟨σ,ok,res,σ',e,k⟩=>by
 obtain⟨⟨x,σ1⟩,e1,e⟩:=bind_some e
 obtain⟨⟨ys,σ2⟩,e2,e⟩:=bind_some e
 cases e
 refine⟨σ,ok,x,σ1,e1,fun v H1 ok1 r1 st1 f1=>⟨σ1,ok1,ys,_,e2,fun vs H2 ok2 r2 st2 f2=>?_⟩⟩
 refine k (v::vs) H2 ok2 (.cons (r1.step ok1 st2) r2 fun d p e3 e4 j d' e5 e6=>?_) (st1.trans st2) fun j d p e3 e4=>?_
 ·subst e3 e4
  obtain⟨q,eq,ow,_⟩:=r1
  cases eq
  obtain⟨o,ho,_⟩:=ow.obj
  have:=f2 j d' p e5 e6
  rw[ho]at this;cases this
 ·cases j with
  | zero=>simp at e3 e4;subst e3 e4;exact f1 d p rfl rfl
  | succ j=>exact st1.dom p (f2 j d p (by simpa using e3) (by simpa using e4))
def dCB(f:FN)(ra:DA):DE:=fun σ=>(ra σ).bind fun x=>(rds x.2 x.1).bind fun ds=>(f ds).bind fun r=>some (r,x.2)
theorem dA{rr:List V->Hp->VK->Prop}{f:FN}{ra:DA}(hp:cJ3 rr f)(h:∀ Γ,PE X e (tCB rr (dTA Γ ra))):GE X e (dCB f ra):=.mk fun Γ=>peW (h Γ) fun σV H Q ⟨σ,ok,res,σ',e,k⟩=>by
 obtain⟨⟨x,σ1⟩,e1,e⟩:=bind_some e
 obtain⟨ds,e2,e⟩:=bind_some e
 obtain⟨r,e3,e⟩:=bind_some e
 cases e
 refine⟨σ,ok,x,_,e1,fun vs H1 ok1 r1 st1 f1=>?_⟩
 refine hp H1 ds vs Q _ (rF ok1 r1 e2) e3 fun v H' sm nw=>?_
 exact k v H' (ok1.same sm) (nw.res ok1) (st1.trans (.same sm)) (nw.frh.back st1)
def lZ(ra:DA):DE:=fun σ=>(ra σ).bind fun x=>(vals x.1).bind fun ds=>if ds.length<=sizeLine then some (.val (.tup ds),x.2)else none
def yH(ra:DA):DE:=fun σ=>(ra σ).bind fun x=>(vals x.1).bind fun ds=>if ds.length<=sizeLine then some (.own (.lst ds),x.2)else none
theorem fN{x1}(h:GA X es rs):GE X (.Tuple es x1 pos) (lZ rs):=.mk fun Γ=>peW (aS8 (h.to Γ)) fun σV H Q ⟨σ,ok,res,σ',e,k⟩=>by
 obtain⟨⟨x,σ1⟩,e1,e⟩:=bind_some e
 obtain⟨ds,e2,e⟩:=bind_some e
 dsimp only at e
 split at e
 ·rename_i hl
  cases e
  refine⟨σ,ok,x,_,e1,fun vs H1 ok1 r1 st1 f1=>?_⟩
  have rp:=qJ r1 e2
  refine⟨by rw[← rp.length];exact hl,fun p hp=>?_⟩
  have sm:lX H1 (upd H1 p (.tup vs)):=bR hp
  exact k _ _ (ok1.same sm) (.tup aG (rp.mono (.same sm))) (st1.trans (.same sm)) fX
 ·cases e
theorem jY(h:GA X es rs):GE X (.List es pos) (yH rs):=.mk fun Γ=>peW (oO (h.to Γ)) fun σV H Q ⟨σ,ok,res,σ',e,k⟩=>by
 obtain⟨⟨x,σ1⟩,e1,e⟩:=bind_some e
 obtain⟨ds,e2,e⟩:=bind_some e
 dsimp only at e
 split at e
 ·rename_i hl
  cases e
  refine⟨σ,ok,x,_,e1,fun vs H1 ok1 r1 st1 f1=>?_⟩
  have rp:=qJ r1 e2
  refine⟨by rw[← rp.length];exact hl,fun p hp=>?_⟩
  have sm:lX H1 (upd H1 p (.lst vs)):=bR hp
  have nw:yF H1 (upd H1 p (.lst vs)) (.own (.lst ds)) (.ref p):=⟨p,rfl,hp,vs,aG,rp.mono (.same sm)⟩
  exact k _ _ (ok1.same sm) (nw.res ok1) (st1.trans (.same sm)) (nw.frh.back st1)
 ·cases e
end
section
variable{Γ:Gm}{H:Hp}{σ:Sg}{σV:St}{i:Nat}{s:Sl}{p:Addr}{o':HO}{d':D}
theorem StOk.ownAt(ok:StOk Γ H σ σV)(hs:σ[i]? = some (some s))(hm:s.m≠.val):∃ p,σV[i]? = some (some (.ref p))/\eK H s.d p:=by
 obtain⟨v,e,r⟩:=ok.rel i s hs
 obtain⟨p,rfl,r'⟩:=(cZ hm).mp r
 exact⟨p,e,r'⟩
theorem hZ{m:Md}(h:m.mt=true):m≠.val:=fun z=>by rw[z]at h;cases h
theorem eK.ext{d:D}(h:eK H d p):Ext H (upd H p o'):=by
 obtain⟨o,e,n1,n2⟩:=h.obj
 exact⟨fun b xs q=>by rw[aF (fun z=>by subst z;rw[e]at q;cases q;exact n1 _ rfl)];exact q,fun b ob x q=>by rw[aF (fun z=>by subst z;rw[e]at q;cases q;exact n2 _ _ rfl)];exact q⟩
theorem StOk.write(ok:StOk Γ H σ σV)(hs:σ[i]? = some (some s))(hm:s.m.mt=true)(hv:σV[i]? = some (some (.ref p)))(ow:eK (upd H p o') d' p) :
  StOk Γ (upd H p o') (σ.set i (some ⟨s.m,d'⟩)) σV/\Step σ σV H (σ.set i (some ⟨s.m,d'⟩)) σV (upd H p o'):=by
 obtain⟨p',e',ow0⟩:=ok.ownAt hs (hZ hm)
 rw[hv]at e';cases e'
 have x:Ext H (upd H p o'):=ow0.ext
 have il:i < σ.length:=(List.getElem?_eq_some_iff.mp hs).1
 have back:∀ (j:Nat) t,(σ.set i (some ⟨s.m,d'⟩))[j]? = some (some t)->∃ t',σ[j]? = some (some t')/\t'.m=t.m:=fun j t ej=>by
  rcases bU ej with⟨z,z2,_⟩ | ⟨z,z2⟩
  ·cases z2;subst z;exact⟨s,hs,rfl⟩
  ·exact⟨t,z2,rfl⟩
 refine⟨⟨fun j t ej=>?_,fun j l t t' q n ej el m m'=>?_,fun j t q ej m=>?_,fun j t q ej m=>?_,fun a ob e n=>?_,fun a e=>?_,by rw[List.length_set];exact ok.len⟩,
  ⟨fun a ob e n=>?_,fun a e=>?_,fun a ⟨j,t,ej,m,ea⟩=>?_,fun a ⟨j,t,ej,m,ea⟩=>?_,fun j t ej=>?_,fun j t ej m=>?_,fun j t ej m=>?_⟩⟩
 ·rcases bU ej with⟨z,z2,_⟩ | ⟨z,z2⟩
  ·cases z2;subst z;exact⟨_,hv,(cZ (s:=⟨s.m,d'⟩) (hZ hm)).mpr ⟨p,rfl,ow⟩⟩
  ·obtain⟨w,ew,rw2⟩:=ok.rel j t z2
   refine⟨w,ew,rw2.mono x fun q ob eq m e2=>?_⟩
   rw[aF (fun y=>ok.dis i j _ t p (Ne.symm z) hs z2 hm m hv (by rw[ew,eq,y]))];exact e2
 ·obtain⟨t1,h1,m1⟩:=back j t ej
  obtain⟨t2,h2,m2⟩:=back l t' el
  exact ok.dis j l t1 t2 q n h1 h2 (by rw[m1];exact m) (by rw[m2];exact m')
 ·obtain⟨t1,h1,m1⟩:=back j t ej
  exact ok.own j t1 q h1 (m1.trans m)
 ·obtain⟨t1,h1,m1⟩:=back j t ej
  exact ok.par j t1 q h1 (m1.trans m)
 ·have:a≠p:=fun z=>by
   subst z
   cases hq:s.m with
   | own=>rw[ok.own i s a hs hq hv]at e;cases e
   | par=>exact n (ok.par i s a hs hq hv)
   | val=>rw[hq]at hm;cases hm
   | lent=>rw[hq]at hm;cases hm
  rw[aF this];exact ok.keep a ob e n
 ·by_cases z:a=p
  ·subst z;rw[aG]at e;cases e
  ·rw[aF z]at e;exact ok.dom a e
 ·rw[aF (fun z=>n ⟨i,s,hs,hm,by rw[z];exact hv⟩)];exact e
 ·by_cases z:a=p
  ·subst z;rw[aG]at e;cases e
  ·rw[aF z]at e;exact e
 ·obtain⟨t1,h1,m1⟩:=back j t ej
  exact .inl ⟨j,t1,h1,by rw[m1];exact m,ea⟩
 ·obtain⟨t1,h1,m1⟩:=back j t ej
  exact .inl ⟨j,t1,h1,by rw[m1];exact m,ea⟩
 ·by_cases z:j=i
  ·subst z;exact⟨_,by rw[List.getElem?_set_self il]⟩
  ·exact⟨t,by rw[List.getElem?_set_ne (Ne.symm z)];exact ej⟩
 ·by_cases z:j=i
  ·subst z
   rw[hs]at ej;cases ej
   exact⟨⟨s.m,d'⟩,by rw[List.getElem?_set_self il],rfl,fun q=>(by rw[q]at hm;cases hm),rfl⟩
  ·exact⟨t,by rw[List.getElem?_set_ne (Ne.symm z)];exact ej,rfl,fun _=>rfl,rfl⟩
 ·obtain⟨t1,h1,m1⟩:=back j t ej
  exact⟨t1,h1,m1.trans m⟩
end
abbrev FM:=D->List D->Option (D×D)
def dG8(r:V->List V->Hp->VK->Prop)(f:FM):Prop:=∀ H d p ds vs Q d' e,eK H d p->Rps H ds vs->f d ds=some (d',e)->(∀ o' v,eK (upd H p o') d' p->Rp (upd H p o') e v->Q v (upd H p o'))->r (.ref p) vs H Q
def dK1(r:V->List V->Hp->VK->Prop)(f:FM):Prop:=∀ H d p ds vs Q d' e,eK H d p->Vws H ds vs->f d ds=some (d',e)->(∀ o' v,eK (upd H p o') d' p->Rp (upd H p o') e v->Q v (upd H p o'))->r (.ref p) vs H Q
def bU1(f:FM)(i:Nat)(ds:List D)(σ:Sg):Option (Res×Sg):=match σ[i]? with
 | some (some s)=>if s.m.mt=true then(f s.d ds).bind fun y=>some (.val y.2,σ.set i (some ⟨s.m,y.1⟩))else none
 | _=>none
def tyD(T:String):D->Bool
 | .lst _=>T=="list"
 | .dic _ _=>T=="dict"
 | _=>false
def aA4(T:String)(i:Nat)(σ:Sg):Bool:=match σ[i]? with
 | some (some s)=>decide (s.m≠.val)&&tyD T s.d
 | _=>false
def aO6(T:String)(i:Nat)(f:FM)(ra:DA):DE:=fun σ=>if aA4 T i σ=true then(ra σ).bind fun x=>(vals x.1).bind fun ds=>bU1 f i ds x.2 else none
def aA5(T:String)(i:Nat)(f:FM)(ra:DA):DE:=fun σ=>if aA4 T i σ=true then(ra σ).bind fun x=>(rds x.2 x.1).bind fun ds=>bU1 f i ds x.2 else none
theorem cW9{K:PySem.W.Frag}{T:String}{H:Hp}{d:D}{p:Addr}(h:eK H d p)(e:tyD T d=true):tyV K T (.ref p) H:=by
 unfold eK at h
 split at h
 ·obtain⟨xs,h1,_⟩:=h
  exact .inl ⟨by simpa[tyD]using e,xs,SqL.of h1⟩
 ·obtain⟨u,ws,h1,h2,_⟩:=h
  refine .inr (.inr (.inl ⟨by simpa[tyD]using e,?_⟩))
  cases u with
  | dK kvs=>exact .inl ⟨kvs,h1⟩
  | dT kvs=>exact .inr ⟨kvs,h1⟩
  | _=>exact h2.elim
 ·exact h.elim
theorem nA{f:FM}{i:Nat}{ds:List D}{σ σ':Sg}{res:Res}(h:bU1 f i ds σ=some (res,σ')):∃ s d' e,σ[i]? = some (some s)/\s.m.mt=true/\f s.d ds=some (d',e)/\res=.val e/\σ'=σ.set i (some ⟨s.m,d'⟩):=by
 unfold bU1 at h
 split at h
 ·rename_i s hs
  split at h
  ·rename_i hm
   obtain⟨⟨d',e⟩,h1,h2⟩:=bind_some h
   cases h2
   exact⟨s,d',e,hs,hm,h1,rfl,rfl⟩
  ·cases h
 ·cases h
theorem vZ{T:String}{i:Nat}{σ:Sg}(h:aA4 T i σ=true):∃ s,σ[i]? = some (some s)/\s.m≠.val/\tyD T s.d=true:=by
 unfold aA4 at h
 split at h
 ·rename_i s hs
  rw[Bool.and_eq_true,decide_eq_true_eq]at h
  exact⟨s,hs,h.1,h.2⟩
 ·cases h
section
variable{X:Cx}{e:Expr}{ra:DA}{K:PySem.W.Frag}{T:String}{r:V->List V->Hp->VK->Prop}{f:FM}{i:Nat}
theorem aW7(hp:dG8 r f)(h:∀ Γ,PE X e (tBM K T r (aG5 i) (dTA Γ ra))):GE X e (aO6 T i f ra):=.mk fun Γ=>peW (h Γ) fun σV H Q ⟨σ,ok,res,σ',e,k⟩=>by
 unfold aO6 at e
 split at e
 ·rename_i hn
  obtain⟨⟨x,σ1⟩,e1,e⟩:=bind_some e
  obtain⟨ds,e2,e⟩:=bind_some e
  obtain⟨s,d',y,hs,hm,e3,rfl,rfl⟩:=nA e
  obtain⟨s0,hs0,hm0,ht0⟩:=vZ hn
  obtain⟨p,ep,ow⟩:=ok.ownAt hs0 hm0
  refine⟨_,ep,cW9 ow ht0,σ,ok,x,σ1,e1,fun vs H1 ok1 r1 st1 f1=>?_⟩
  obtain⟨p',ep',ow1⟩:=ok1.ownAt hs (hZ hm)
  rw[ep]at ep';cases ep'
  refine hp H1 s.d p ds vs Q d' y ow1 (qJ r1 e2) e3 fun o' v ow' rp=>?_
  obtain⟨ok2,st2⟩:=ok1.write hs hm ep ow'
  exact k v _ ok2 rp (st1.trans st2) fX
 ·cases e
theorem aW8(hp:dK1 r f)(h:∀ Γ,PE X e (tBM K T r (aG5 i) (dTA Γ ra))):GE X e (aA5 T i f ra):=.mk fun Γ=>peW (h Γ) fun σV H Q ⟨σ,ok,res,σ',e,k⟩=>by
 unfold aA5 at e
 split at e
 ·rename_i hn
  obtain⟨⟨x,σ1⟩,e1,e⟩:=bind_some e
  obtain⟨ds,e2,e⟩:=bind_some e
  obtain⟨s,d',y,hs,hm,e3,rfl,rfl⟩:=nA e
  obtain⟨s0,hs0,hm0,ht0⟩:=vZ hn
  obtain⟨p,ep,ow⟩:=ok.ownAt hs0 hm0
  refine⟨_,ep,cW9 ow ht0,σ,ok,x,σ1,e1,fun vs H1 ok1 r1 st1 f1=>?_⟩
  obtain⟨p',ep',ow1⟩:=ok1.ownAt hs (hZ hm)
  rw[ep]at ep';cases ep'
  refine hp H1 s.d p ds vs Q d' y ow1 (rF ok1 r1 e2) e3 fun o' v ow' rp=>?_
  obtain⟨ok2,st2⟩:=ok1.write hs hm ep ow'
  exact k v _ ok2 rp (st1.trans st2) fX
 ·cases e
end
end Dv
namespace Dv
open PySem L2
inductive Out where
 | nx (σ:Sg) | rt (r:Res) (σ:Sg) | bk (σ:Sg) | ct (σ:Sg) | ex (c:Str) (f:Option (Str×D)) (σ:Sg)
abbrev DS:=Sg->Option Out
structure Ex where
 ok:Hp->Str->Option (Str×D)->Value->Option Addr->Prop
 to:St->XK
def Ex.no:Ex:=⟨fun _ _ _ _ _=>False,fun _ _ _ _=>False⟩
def aW9(Γ:Gm)(E:Ex)(σ:Sg)(σV:St)(H:Hp)(o:Out)(D:Ends):Prop:=match o with
 | .nx σ'=>∀ σV' H',StOk Γ H' σ' σV'->Step σ σV H σ' σV' H'->D.nx σV' H'
 | .rt r σ'=>∀ v σV' H',StOk Γ H' σ' σV'->jK Γ H' σ' σV' r v->Step σ σV H σ' σV' H'->D.rt v H'
 | .bk σ'=>∀ σV' H',StOk Γ H' σ' σV'->Step σ σV H σ' σV' H'->D.bk σV' H'
 | .ct σ'=>∀ σV' H',StOk Γ H' σ' σV'->Step σ σV H σ' σV' H'->D.ct σV' H'
 | .ex c f σ'=>∀ x d σV' H',StOk Γ H' σ' σV'->E.ok H' c f x d->Step σ σV H σ' σV' H'->E.to σV' x d H'
def dTS(Γ:Gm)(E:Ex)(r:DS):TS:=fun D σV H=>∃ σ,StOk Γ H σ σV/\∃ o,r σ=some o/\aW9 Γ E σ σV H o D
structure GS(E:Ex)(X:Cx)(s:Stmt)(r:DS):Prop where
 to:∀ Γ,PS X s (dTS Γ E r)
structure GSs(E:Ex)(X:Cx)(s:List Stmt)(r:DS):Prop where
 to:∀ Γ,PSs X s (dTS Γ E r)
theorem aW9.after{Γ:Gm}{E:Ex}{σ σ1:Sg}{σV σV1:St}{H H1:Hp}{o:Out}{D:Ends}(h:aW9 Γ E σ σV H o D)(st:Step σ σV H σ1 σV1 H1):aW9 Γ E σ1 σV1 H1 o D:=by
 cases o with
 | nx σ'=>exact fun σV' H' ok s=>h σV' H' ok (st.trans s)
 | rt r σ'=>exact fun v σV' H' ok q s=>h v σV' H' ok q (st.trans s)
 | bk σ'=>exact fun σV' H' ok s=>h σV' H' ok (st.trans s)
 | ct σ'=>exact fun σV' H' ok s=>h σV' H' ok (st.trans s)
 | ex c f σ'=>exact fun x d σV' H' ok q s=>h x d σV' H' ok q (st.trans s)
def dN:DS:=fun σ=>some (.nx σ)
def cH(a b:DS):DS:=fun σ=>(a σ).bind fun o=>match o with
 | .nx σ1=>b σ1
 | o=>some o
def aA6(r:DE):DS:=fun σ=>(r σ).bind fun x=>some (.nx x.2)
def fZ(r:DE):DS:=fun σ=>(r σ).bind fun x=>some (.rt x.1 x.2)
def dG9:DS:=fun σ=>some (.rt (.val .non) σ)
def jN(c:DT)(a b:DS):DS:=fun σ=>(c σ).bind fun x=>if x.1=true then a x.2 else b x.2
section
variable{X:Cx}{E:Ex}{st:Stmt}{dI:List Stmt}{a b:DS}{pos:Pos}{e:Expr}{r:DE}
theorem bV:GSs E X [] dN:=.mk fun Γ=>cW5 fU fun D σV H ⟨σ,ok,o,e,k⟩=>by
 cases e;exact k σV H ok .refl
theorem aS(h:GS E X st a):GSs E X [st] a:=.mk fun Γ=>bH (h.to Γ)
theorem bU2{Γ:Gm}{E:Ex}{D:Ends}{σV:St}{H:Hp}(h:dTS Γ E (cH a b) D σV H):cR9 (dTS Γ E a) (dTS Γ E b) D σV H:=by
 obtain⟨σ,ok,o,e,k⟩:=h
 obtain⟨o1,e1,e⟩:=bind_some e
 refine⟨σ,ok,o1,e1,?_⟩
 cases o1 with
 | nx σ1=>exact fun σV1 H1 ok1 st1=>⟨σ1,ok1,o,e,k.after st1⟩
 | rt r σ'=>cases e;exact k
 | bk σ'=>cases e;exact k
 | ct σ'=>cases e;exact k
 | ex c f σ'=>cases e;exact k
theorem aJ(h1:GS E X st a)(h2:GSs E X dI b):GSs E X (st::dI) (cH a b):=.mk fun Γ=>cW5 (aW (h1.to Γ) (h2.to Γ)) fun _ _ _=>bU2
theorem aA7(he:GE X e r)(hs:swapsWith e none pos.line X.env=pure false:=by rfl):GS E X (.Expr e pos) (aA6 r):=.mk fun Γ=>psW (fM (he.to Γ) hs) fun D σV H ⟨σ,ok,o,e,k⟩=>by
 obtain⟨⟨x,σ1⟩,e1,e⟩:=bind_some e
 cases e
 exact⟨σ,ok,x,σ1,e1,fun v H1 ok1 r1 st1 _=>k σV H1 ok1 st1⟩
theorem bM(he:GE X e r):GS E X (.Return (some e) pos) (fZ r):=.mk fun Γ=>psW (mF (he.to Γ)) fun D σV H ⟨σ,ok,o,e,k⟩=>by
 obtain⟨⟨x,σ1⟩,e1,e⟩:=bind_some e
 cases e
 exact⟨σ,ok,x,σ1,e1,fun v H1 ok1 r1 st1 _=>k v σV H1 ok1 r1 st1⟩
theorem fB{c:Expr}{l m:List Stmt}{t:DT}(hc:GT X c t)(ha:GSs E X l a)(hb:GSs E X m b):GS E X (.If c l m pos) (jN t a b):=.mk fun Γ=>psW (nX (hc.to Γ) (ha.to Γ) (hb.to Γ)) fun D σV H ⟨σ,ok,o,e,k⟩=>by
 obtain⟨⟨x,σ1⟩,e1,e⟩:=bind_some e
 refine⟨σ,ok,x,σ1,e1,fun H1 ok1 st1=>?_⟩
 dsimp only at e
 split at e
 ·rename_i hx;rw[if_pos hx];exact⟨σ1,ok1,o,e,k.after st1⟩
 ·rename_i hx;rw[if_neg hx];exact⟨σ1,ok1,o,e,k.after st1⟩
end
def fC(σ:Sg)(i:Nat):Bool:=match σ[i]? with
 | some none=>true
 | some (some s)=>decide (s.m=.val)||decide (s.m=.own)
 | none=>false
theorem kQ{σ:Sg}{i:Nat}(h:fC σ i=true):i < σ.length:=by
 unfold fC at h
 split at h
 ·rename_i e;exact(List.getElem?_eq_some_iff.mp e).1
 ·rename_i e;exact(List.getElem?_eq_some_iff.mp e).1
 ·cases h
theorem bU3{σ:Sg}{i:Nat}{s:Sl}(h:fC σ i=true)(hs:σ[i]? = some (some s)):s.m=.val\/s.m=.own:=by
 unfold fC at h
 rw[hs]at h
 simpa using h
section
variable{Γ:Gm}{H H0:Hp}{σ σ0:Sg}{σV σV0:St}{i:Nat}{d:D}{v:V}
theorem StOk.put(ok:StOk Γ H σ σV)(hp:fC σ i=true)(r:Rp H d v):StOk Γ H (σ.set i (some ⟨.val,d⟩)) (σV.set i (some v)) where
 rel:=fun j t ej=>by
  rcases bU ej with⟨z,z2,_⟩ | ⟨z,z2⟩
  ·cases z2;subst z
   exact⟨v,by rw[List.getElem?_set_self (by rw[← ok.len];exact kQ hp)],r⟩
  ·obtain⟨w,ew,rw2⟩:=ok.rel j t z2
   exact⟨w,by rw[List.getElem?_set_ne (Ne.symm z)];exact ew,rw2⟩
 dis:=fun j l t t' q n ej el m m' eq eq'=>by
  rcases bU ej with⟨z,z2,_⟩ | ⟨z,z2⟩
  ·cases z2;cases m
  ·rcases bU el with⟨y,y2,_⟩ | ⟨y,y2⟩
   ·cases y2;exact m' rfl
   ·rw[List.getElem?_set_ne (Ne.symm z)]at eq
    rw[List.getElem?_set_ne (Ne.symm y)]at eq'
    exact ok.dis j l t t' q n z2 y2 m m' eq eq'
 own:=fun j t q ej m eq=>by
  rcases bU ej with⟨z,z2,_⟩ | ⟨z,z2⟩
  ·cases z2;cases m
  ·rw[List.getElem?_set_ne (Ne.symm z)]at eq;exact ok.own j t q z2 m eq
 par:=fun j t q ej m eq=>by
  rcases bU ej with⟨z,z2,_⟩ | ⟨z,z2⟩
  ·cases z2;cases m
  ·rw[List.getElem?_set_ne (Ne.symm z)]at eq;exact ok.par j t q z2 m eq
 keep:=ok.keep
 dom:=ok.dom
 len:=by rw[List.length_set,List.length_set];exact ok.len
theorem Step.put(st:Step σ0 σV0 H0 σ σV H)(hp:fC σ i=true)(m:Md)(hm:m=.val\/m=.own/\∀ p,v=.ref p->H0 p=none):Step σ0 σV0 H0 (σ.set i (some ⟨m,d⟩)) (σV.set i (some v)) H:=by
 have ne_lent:m≠.lent:=by rcases hm with rfl | ⟨rfl,_⟩<;>exact fun z=>nomatch z
 have il:=kQ hp
 have fixi:∀ t,σ[i]? = some (some t)->t.m≠.par/\t.m≠.lent:=fun t e=>by
  rcases bU3 hp e with z | z<;>(rw[z];exact⟨(fun y=>by cases y),(fun y=>by cases y)⟩)
 refine⟨st.fr,st.dom,fun a ⟨j,t,ej,mt,ea⟩=>?_,fun a ⟨j,t,ej,nv,ea⟩=>?_,fun j t ej=>?_,fun j t ej mm=>?_,fun j t ej mm=>?_⟩
 ·rcases bU ej with⟨z,z2,_⟩ | ⟨z,z2⟩
  ·cases z2
   subst z
   rcases hm with rfl | ⟨_,hf⟩
   ·cases mt
   ·have:=List.getElem?_eq_some_iff.mp ea
    obtain⟨hl,he⟩:=this
    rw[List.getElem_set_self]at he
    exact .inr (hf a (Option.some.inj he))
  ·rw[List.getElem?_set_ne (Ne.symm z)]at ea
   exact st.mu a ⟨j,t,z2,mt,ea⟩
 ·rcases bU ej with⟨z,z2,_⟩ | ⟨z,z2⟩
  ·cases z2
   subst z
   rcases hm with rfl | ⟨_,hf⟩
   ·exact absurd rfl nv
   ·have:=List.getElem?_eq_some_iff.mp ea
    obtain⟨hl,he⟩:=this
    rw[List.getElem_set_self]at he
    exact .inr (hf a (Option.some.inj he))
  ·rw[List.getElem?_set_ne (Ne.symm z)]at ea
   exact st.nv a ⟨j,t,z2,nv,ea⟩
 ·obtain⟨t',et⟩:=st.kp j t ej
  by_cases z:j=i
  ·subst z;exact⟨_,by rw[List.getElem?_set_self il]⟩
  ·exact⟨t',by rw[List.getElem?_set_ne (Ne.symm z)];exact et⟩
 ·obtain⟨t',et,h1,h2,h3⟩:=st.fix j t ej mm
  have z:j≠i:=fun z=>by
   subst z
   obtain⟨n1,n2⟩:=fixi t' et
   rcases mm with m1 | m1
   ·exact n1 (h1.trans m1)
   ·exact n2 (h1.trans m1)
  exact⟨t',by rw[List.getElem?_set_ne (Ne.symm z)];exact et,h1,h2,by rw[List.getElem?_set_ne (Ne.symm z)];exact h3⟩
 ·rcases bU ej with⟨z,z2,_⟩ | ⟨z,z2⟩
  ·cases z2;exact absurd mm ne_lent
  ·exact st.lt j t z2 mm
theorem StOk.putOwn{p:Addr}(ok:StOk Γ H σ σV)(hp:fC σ i=true)(ow:eK H d p)(hn:¬ bO0 σ σV p)(h0:Γ.H₀ p=none):StOk Γ H (σ.set i (some ⟨.own,d⟩)) (σV.set i (some (.ref p))) where
 rel:=fun j t ej=>by
  rcases bU ej with⟨z,z2,_⟩ | ⟨z,z2⟩
  ·cases z2;subst z
   exact⟨.ref p,by rw[List.getElem?_set_self (by rw[← ok.len];exact kQ hp)],p,rfl,ow⟩
  ·obtain⟨w,ew,rw2⟩:=ok.rel j t z2
   exact⟨w,by rw[List.getElem?_set_ne (Ne.symm z)];exact ew,rw2⟩
 dis:=fun j l t t' q n ej el m m' eq eq'=>by
  have il:i < σV.length:=by rw[← ok.len];exact kQ hp
  rcases bU ej with⟨z,z2,_⟩ | ⟨z,z2⟩
  ·subst z
   rw[List.getElem?_set_self il]at eq
   have eq:=Option.some.inj (Option.some.inj eq)
   cases eq
   rcases bU el with⟨y,y2,_⟩ | ⟨y,y2⟩
   ·exact n y.symm
   ·rw[List.getElem?_set_ne (Ne.symm y)]at eq'
    exact hn ⟨l,t',y2,m',eq'⟩
  ·rw[List.getElem?_set_ne (Ne.symm z)]at eq
   rcases bU el with⟨y,y2,_⟩ | ⟨y,y2⟩
   ·subst y
    rw[List.getElem?_set_self il]at eq'
    have eq':=Option.some.inj (Option.some.inj eq')
    cases eq'
    exact hn ⟨j,t,z2,hZ m,eq⟩
   ·rw[List.getElem?_set_ne (Ne.symm y)]at eq'
    exact ok.dis j l t t' q n z2 y2 m m' eq eq'
 own:=fun j t q ej m eq=>by
  rcases bU ej with⟨z,z2,_⟩ | ⟨z,z2⟩
  ·subst z
   rw[List.getElem?_set_self (by rw[← ok.len];exact kQ hp)]at eq
   have eq:=Option.some.inj (Option.some.inj eq)
   cases eq;exact h0
  ·rw[List.getElem?_set_ne (Ne.symm z)]at eq;exact ok.own j t q z2 m eq
 par:=fun j t q ej m eq=>by
  rcases bU ej with⟨z,z2,_⟩ | ⟨z,z2⟩
  ·cases z2;cases m
  ·rw[List.getElem?_set_ne (Ne.symm z)]at eq;exact ok.par j t q z2 m eq
 keep:=ok.keep
 dom:=ok.dom
 len:=by rw[List.length_set,List.length_set];exact ok.len
end
def dC9(i:Nat)(r:Res)(σ:Sg):Option Sg:=match r with
 | .val d=>if fC σ i=true then some (σ.set i (some ⟨.val,d⟩))else none
 | .own d=>if fC σ i=true then some (σ.set i (some ⟨.own,d⟩))else none
 | .slot _=>none
def fL(i:Nat)(r:DE):DS:=fun σ=>(r σ).bind fun x=>(dC9 i x.1 x.2).bind fun σ1=>some (.nx σ1)
theorem aK1{Γ:Gm}{E:Ex}{i:Nat}{r:DE}{D:Ends}{σV:St}{H:Hp}(h:dTS Γ E (fL i r) D σV H):dTE Γ r σV H (fun x H1=>D.nx (σV.set i (some x)) H1):=by
 obtain⟨σ,ok,o,e,k⟩:=h
 obtain⟨⟨x,σ1⟩,e1,e⟩:=bind_some e
 obtain⟨σ2,e2,e⟩:=bind_some e
 cases e
 refine⟨σ,ok,x,σ1,e1,fun v H1 ok1 r1 st1 f1=>?_⟩
 cases x with
 | val d=>
   have e2':(if fC σ1 i=true then some (σ1.set i (some ⟨.val,d⟩))else none)=some σ2:=e2
   split at e2'
   ·rename_i hp;cases e2';exact k _ _ (ok1.put hp r1) (st1.put hp .val (.inl rfl))
   ·cases e2'
 | own d=>
   have e2':(if fC σ1 i=true then some (σ1.set i (some ⟨.own,d⟩))else none)=some σ2:=e2
   split at e2'
   ·rename_i hp
    cases e2'
    obtain⟨p,rfl,q1,q2,q3⟩:=r1
    exact k _ _ (ok1.putOwn hp q1 q2 q3) (st1.put hp .own (.inr ⟨rfl,fun p e=>f1 _ p rfl e⟩))
   ·cases e2'
 | slot j=>cases e2
theorem cX0{X:Cx}{E:Ex}{i:Nat}{st:Stmt}{r:DE}(h:∀ Γ,PS X st (bN9 (dTE Γ r) (pH i))):GS E X st (fL i r):=.mk fun Γ=>psW (h Γ) fun _ _ _ h=>aK1 h
def iA(x:Str):List D:=x.cps.toList.map fun c=>.str ⟨#[c]⟩
theorem yI{H:Hp}(x:Str):Rps H (iA x) (eZ x):=by
 unfold iA eZ
 induction x.cps.toList with
 | nil=>exact .nil
 | cons a r ih=>exact .cons (.str _) ih
abbrev DG:=D->Sg->Option Sg
abbrev DGs:=List D->Sg->Option Sg
def bU4(own:List Nat)(g:TG)(gd:DG):Prop:=∀ Γ H σ0 σV0 H0 σ σV d v σ' Q,StOk Γ H σ σV->Step σ0 σV0 H0 σ σV H->Rp H d v->gd d σ=some σ' ->
 (∀ σV',StOk Γ H σ' σV'->Step σ0 σV0 H0 σ' σV' H->σV'.length=σV.length->(∀ i,i∉own->σV'[i]? = σV[i]? /\ σ'[i]? = σ[i]?)->Q σV' H)->g v σV H Q
def bU5(own:List Nat)(g:TGs)(gd:DGs):Prop:=∀ Γ H σ0 σV0 H0 σ σV ds vs σ' Q,StOk Γ H σ σV->Step σ0 σV0 H0 σ σV H->Rps H ds vs->gd ds σ=some σ' ->
 (∀ σV',StOk Γ H σ' σV'->Step σ0 σV0 H0 σ' σV' H->σV'.length=σV.length->(∀ i,i∉own->σV'[i]? = σV[i]? /\ σ'[i]? = σ[i]?)->Q σV' H)->g vs σV H Q
def dgN(i:Nat):DG:=fun d σ=>if fC σ i=true then some (σ.set i (some ⟨.val,d⟩))else none
def pL:DGs:=fun ds σ=>if ds.isEmpty then some σ else none
def dW(g:DG)(gs:DGs):DGs:=fun ds σ=>match ds with
 | d::r=>(g d σ).bind fun σ1=>gs r σ1
 | []=>none
def pM(n:Nat)(gs:DGs):DG:=fun d σ=>match d with
 | .tup l=>if l.length=n then gs l σ else none
 | .str z=>if z.length=n then gs (iA z) σ else none
 | _=>none
theorem bN{own:List Nat}{i:Nat}(h:i∈own):bU4 own (pH i) (dgN i):=by
 intro Γ H σ0 σV0 H0 σ σV d v σ' Q ok st r e k
 unfold dgN at e
 split at e
 ·rename_i hp
  cases e
  refine k _ (ok.put hp r) (st.put hp .val (.inl rfl)) (by simp) fun j hj=>?_
  have:i≠j:=fun z=>hj (by rw[← z];exact h)
  exact⟨List.getElem?_set_ne this,List.getElem?_set_ne this⟩
 ·cases e
theorem lP{own:List Nat}:bU5 own dE4 pL:=by
 intro Γ H σ0 σV0 H0 σ σV ds vs σ' Q ok st r e k
 unfold pL at e
 cases r with
 | nil=>cases e;exact⟨rfl,k _ ok st rfl fun _ _=>⟨rfl,rfl⟩⟩
 | cons _ _=>cases e
theorem cW{own:List Nat}{g:TG}{gd:DG}{gs:TGs}{gds:DGs}(h1:bU4 own g gd)(h2:bU5 own gs gds):bU5 own (cF3 g gs) (dW gd gds):=by
 intro Γ H σ0 σV0 H0 σ σV ds vs σ' Q ok st r e k
 cases r with
 | nil=>cases e
 | cons a t=>
   obtain⟨σ1,e1,e⟩:=bind_some e
   refine⟨_,_,rfl,h1 Γ H σ0 σV0 H0 σ σV _ _ σ1 _ ok st a e1 fun σV1 ok1 st1 l1 f1=>?_⟩
   refine h2 Γ H σ0 σV0 H0 σ1 σV1 _ _ σ' _ ok1 st1 t e fun σV2 ok2 st2 l2 f2=>?_
   exact k σV2 ok2 st2 (l2.trans l1) fun i hi=>⟨(f2 i hi).1.trans (f1 i hi).1,(f2 i hi).2.trans (f1 i hi).2⟩
theorem rG{own:List Nat}{K:PySem.W.Frag}{n:Nat}{gs:TGs}{gds:DGs}(h:bU5 own gs gds):bU4 own (aN6 K n gs) (pM n gds):=by
 intro Γ H σ0 σV0 H0 σ σV d v σ' Q ok st r e k
 cases d with
 | tup l=>
   have e':(if l.length=n then gds l σ else none)=some σ':=e
   split at e'
   ·rename_i hl
    obtain⟨p,xs,rfl,h1,h2⟩:=fY (.inl r)
    exact⟨xs,cJ h1,by rw[← h2.length];exact hl,h Γ H σ0 σV0 H0 σ σV l xs σ' Q ok st h2 e' k⟩
   ·cases e'
 | str z=>
   have e':(if z.length=n then gds (iA z) σ else none)=some σ':=e
   split at e'
   ·rename_i hl
    cases r
    exact⟨hl,h Γ H σ0 σV0 H0 σ σV _ _ σ' Q ok st (yI z) e' k⟩
   ·cases e'
 | _=>cases e
def cJ6(g:DG)(r:DE):DS:=fun σ=>(r σ).bind fun x=>match x.1 with
 | .val d=>(g d x.2).bind fun σ1=>some (.nx σ1)
 | _=>none
theorem aX0{X:Cx}{E:Ex}{own:List Nat}{st:Stmt}{r:DE}{g:TG}{gd:DG}(hg:bU4 own g gd)(h:∀ Γ,PS X st (bN9 (dTE Γ r) g)):GS E X st (cJ6 gd r):=.mk fun Γ=>psW (h Γ) fun D σV H ⟨σ,ok,o,e,k⟩=>by
 obtain⟨⟨x,σ1⟩,e1,e⟩:=bind_some e
 refine⟨σ,ok,x,σ1,e1,fun v H1 ok1 r1 st1 f1=>?_⟩
 cases x with
 | val d=>
   obtain⟨σ2,e2,e⟩:=bind_some e
   cases e
   exact hg Γ H1 σ σV H σ1 σV d v σ2 _ ok1 st1 r1 e2 fun σV2 ok2 st2 _ _=>k σV2 H1 ok2 st2
 | own d=>cases e
 | slot d=>cases e
end Dv
namespace Dv
open PySem L2
def lend(i:Nat)(σ:Sg):Sg:=match σ[i]? with
 | some (some s)=>if s.m.mt=true then σ.set i (some ⟨.lent,s.d⟩)else σ
 | _=>σ
def unl(i:Nat)(σ0 σ:Sg):Sg:=match σ0[i]?,σ[i]? with
 | some (some s0),some (some s)=>if s0.m.mt=true then σ.set i (some ⟨s0.m,s.d⟩)else σ
 | _,_=>σ
def lendO(l:Option Nat)(σ:Sg):Sg:=match l with
 | some i=>lend i σ
 | none=>σ
def aQ7(l:Option Nat)(σ0 σ:Sg):Sg:=match l with
 | some i=>unl i σ0 σ
 | none=>σ
section
variable{Γ:Gm}{H H1 H2:Hp}{σ σ1 σ2:Sg}{σV σV2:St}{i:Nat}{s:Sl}
theorem wA(hs:σ[i]? = some (some s))(hm:s.m.mt=true):lend i σ=σ.set i (some ⟨.lent,s.d⟩):=by
 unfold lend;rw[hs];simp only[hm,if_true]
theorem aA8(h:∀ s,σ[i]? = some (some s)->s.m.mt=false):lend i σ=σ:=by
 unfold lend
 split
 ·rename_i s hs;rw[if_neg (by rw[h s hs];exact Bool.false_ne_true)]
 ·rfl
theorem StOk.lend(ok:StOk Γ H σ σV):StOk Γ H (lend i σ) σV:=by
 by_cases hx:∃ s,σ[i]? = some (some s)/\s.m.mt=true
 ·obtain⟨s,hs,hm⟩:=hx
  rw[wA hs hm]
  obtain⟨p,ep,ow⟩:=ok.ownAt hs (hZ hm)
  have back:∀ (j:Nat) t,(σ.set i (some ⟨.lent,s.d⟩))[j]? = some (some t)->(j=i/\t=⟨.lent,s.d⟩)\/(j≠i/\σ[j]? = some (some t)):=fun j t ej=>by
   rcases bU ej with⟨z,z2,_⟩ | z
   ·cases z2;exact .inl ⟨z,rfl⟩
   ·exact .inr z
  refine⟨fun j t ej=>?_,fun j l t t' q n ej el m m' eq eq'=>?_,fun j t q ej m eq=>?_,fun j t q ej m eq=>?_,ok.keep,ok.dom,by rw[List.length_set];exact ok.len⟩
  ·rcases back j t ej with⟨rfl,rfl⟩ | ⟨_,z⟩
   ·exact⟨_,ep,p,rfl,ow⟩
   ·exact ok.rel j t z
  ·rcases back j t ej with⟨rfl,rfl⟩ | ⟨_,z⟩
   ·cases m
   ·rcases back l t' el with⟨rfl,rfl⟩ | ⟨_,y⟩
    ·exact ok.dis j l t s q n z hs m (hZ hm) eq eq'
    ·exact ok.dis j l t t' q n z y m m' eq eq'
  ·rcases back j t ej with⟨rfl,rfl⟩ | ⟨_,z⟩
   ·cases m
   ·exact ok.own j t q z m eq
  ·rcases back j t ej with⟨rfl,rfl⟩ | ⟨_,z⟩
   ·cases m
   ·exact ok.par j t q z m eq
 ·rw[aA8 fun s hs=>by
   cases e:s.m.mt with
   | false=>rfl
   | true=>exact absurd ⟨s,hs,e⟩ hx]
  exact ok
theorem cX1(ok:StOk Γ H1 σ1 σV)(ok2:StOk Γ H2 σ2 σV2)(st:Step (lend i σ1) σV H1 σ2 σV2 H2):StOk Γ H2 (unl i σ1 σ2) σV2/\Step σ1 σV H1 (unl i σ1 σ2) σV2 H2:=by
 by_cases hx:∃ s,σ1[i]? = some (some s)/\s.m.mt=true
 ·obtain⟨s,hs,hm⟩:=hx
  have il:i < σ1.length:=(List.getElem?_eq_some_iff.mp hs).1
  rw[wA hs hm]at st
  have hsl:(σ1.set i (some ⟨.lent,s.d⟩))[i]? = some (some ⟨.lent,s.d⟩):=by rw[List.getElem?_set_self il]
  obtain⟨s2,h2,m2,d2,v2⟩:=st.fix i _ hsl (.inr rfl)
  have m2':s2.m=.lent:=m2
  have il2:i < σ2.length:=(List.getElem?_eq_some_iff.mp h2).1
  have eu:unl i σ1 σ2=σ2.set i (some ⟨s.m,s2.d⟩):=by unfold unl;rw[hs,h2];simp only[hm,if_true]
  rw[eu]
  obtain⟨p,ep,ow⟩:=ok.ownAt hs (hZ hm)
  have ep2:σV2[i]? = some (some (.ref p)):=v2.trans ep
  obtain⟨p',e',ow2⟩:=ok2.ownAt h2 (by rw[m2'];exact fun z=>nomatch z)
  rw[ep2]at e';cases e'
  have lold:∀ (j:Nat) t,j≠i->σ2[j]? = some (some t)->t.m=.lent->σV2[j]? ≠ some (some (.ref p)):=fun j t hj ej mj e=>by
   obtain⟨t1,h1,mt1⟩:=st.lt j t ej mj
   rw[List.getElem?_set_ne (Ne.symm hj)]at h1
   have hf:(σ1.set i (some ⟨.lent,s.d⟩))[j]? = some (some t1):=by rw[List.getElem?_set_ne (Ne.symm hj)];exact h1
   obtain⟨_,_,_,_,vj⟩:=st.fix j t1 hf (.inr mt1)
   rw[vj]at e
   exact ok.dis i j s t1 p (Ne.symm hj) hs h1 hm (by rw[mt1];exact fun z=>nomatch z) ep e
  have others:∀ (j:Nat) t,j≠i->σ2[j]? = some (some t)->t.m≠.val->σV2[j]? ≠ some (some (.ref p)):=fun j t hj ej mj e=>by
   by_cases hl:t.m=.lent
   ·exact lold j t hj ej hl e
   ·have hmt:t.m.mt=true:=by
     cases q:t.m with
     | val=>exact absurd q mj
     | own=>rfl
     | par=>rfl
     | lent=>exact absurd q hl
    exact ok2.dis j i t s2 p hj ej h2 hmt (by rw[m2'];exact fun z=>nomatch z) e ep2
  have back:∀ (j:Nat) t,(σ2.set i (some ⟨s.m,s2.d⟩))[j]? = some (some t)->(j=i/\t=⟨s.m,s2.d⟩)\/(j≠i/\σ2[j]? = some (some t)):=fun j t ej=>by
   rcases bU ej with⟨z,z2,_⟩ | z
   ·cases z2;exact .inl ⟨z,rfl⟩
   ·exact .inr z
  have sub:∀ a,oC (σ1.set i (some ⟨.lent,s.d⟩)) σV a->oC σ1 σV a:=fun a ⟨j,t,ej,m,ea⟩=>by
   rcases bU ej with⟨z,z2,_⟩ | ⟨z,z2⟩
   ·cases z2;cases m
   ·exact⟨j,t,z2,m,ea⟩
  have subN:∀ a,bO0 (σ1.set i (some ⟨.lent,s.d⟩)) σV a->bO0 σ1 σV a:=fun a ⟨j,t,ej,m,ea⟩=>by
   rcases bU ej with⟨z,z2,_⟩ | ⟨z,z2⟩
   ·subst z;exact⟨j,s,hs,hZ hm,ea⟩
   ·exact⟨j,t,z2,m,ea⟩
  constructor
  ·refine⟨fun j t ej=>?_,fun j l t t' q n ej el m m' eq eq'=>?_,fun j t q ej m eq=>?_,fun j t q ej m eq=>?_,ok2.keep,ok2.dom,by rw[List.length_set];exact ok2.len⟩
   ·rcases back j t ej with⟨rfl,rfl⟩ | ⟨_,z⟩
    ·exact⟨_,ep2,(cZ (s:=⟨s.m,s2.d⟩) (hZ hm)).mpr ⟨p,rfl,ow2⟩⟩
    ·exact ok2.rel j t z
   ·rcases back j t ej with⟨rfl,rfl⟩ | ⟨zn,z⟩
    ·rw[ep2]at eq
     have eq:=Option.some.inj (Option.some.inj eq)
     cases eq
     rcases back l t' el with⟨rfl,rfl⟩ | ⟨yn,y⟩
     ·exact n rfl
     ·exact others l t' yn y m' eq'
    ·rcases back l t' el with⟨rfl,rfl⟩ | ⟨yn,y⟩
     ·rw[ep2]at eq'
      have eq':=Option.some.inj (Option.some.inj eq')
      cases eq'
      exact others j t zn z (hZ m) eq
     ·exact ok2.dis j l t t' q n z y m m' eq eq'
   ·rcases back j t ej with⟨rfl,rfl⟩ | ⟨_,z⟩
    ·rw[ep2]at eq
     have eq:=Option.some.inj (Option.some.inj eq)
     cases eq
     exact ok.own j s p hs m ep
    ·exact ok2.own j t q z m eq
   ·rcases back j t ej with⟨rfl,rfl⟩ | ⟨_,z⟩
    ·rw[ep2]at eq
     have eq:=Option.some.inj (Option.some.inj eq)
     cases eq
     exact ok.par j s p hs m ep
    ·exact ok2.par j t q z m eq
  ·refine⟨fun a o e n=>st.fr a o e fun z=>n (sub a z),st.dom,fun a ⟨j,t,ej,m,ea⟩=>?_,fun a ⟨j,t,ej,m,ea⟩=>?_,fun j t ej=>?_,fun j t ej m=>?_,fun j t ej m=>?_⟩
   ·rcases back j t ej with⟨rfl,rfl⟩ | ⟨_,z⟩
    ·rw[ep2]at ea
     have ea:=Option.some.inj (Option.some.inj ea)
     cases ea
     exact .inl ⟨j,s,hs,hm,ep⟩
    ·rcases st.mu a ⟨j,t,z,m,ea⟩with y | y
     ·exact .inl (sub a y)
     ·exact .inr y
   ·rcases back j t ej with⟨rfl,rfl⟩ | ⟨_,z⟩
    ·rw[ep2]at ea
     have ea:=Option.some.inj (Option.some.inj ea)
     cases ea
     exact .inl ⟨j,s,hs,hZ hm,ep⟩
    ·rcases st.nv a ⟨j,t,z,m,ea⟩with y | y
     ·exact .inl (subN a y)
     ·exact .inr y
   ·by_cases z:j=i
    ·subst z;exact⟨_,by rw[List.getElem?_set_self il2]⟩
    ·obtain⟨t',et⟩:=st.kp j t (by rw[List.getElem?_set_ne (Ne.symm z)];exact ej)
     exact⟨t',by rw[List.getElem?_set_ne (Ne.symm z)];exact et⟩
   ·by_cases z:j=i
    ·subst z
     rw[hs]at ej;cases ej
     refine⟨⟨s.m,s2.d⟩,by rw[List.getElem?_set_self il2],rfl,fun q=>?_,v2⟩
     rw[q]at hm;cases hm
    ·obtain⟨t',et,h⟩:=st.fix j t (by rw[List.getElem?_set_ne (Ne.symm z)];exact ej) m
     exact⟨t',by rw[List.getElem?_set_ne (Ne.symm z)];exact et,h⟩
   ·rcases back j t ej with⟨rfl,rfl⟩ | ⟨zn,z⟩
    ·have m':s.m=.lent:=m
     rw[m']at hm;cases hm
    ·obtain⟨t1,h1,m1⟩:=st.lt j t z m
     rw[List.getElem?_set_ne (Ne.symm zn)]at h1
     exact⟨t1,h1,m1⟩
 ·have hno:∀ s,σ1[i]? = some (some s)->s.m.mt=false:=fun s hs=>by
   cases e:s.m.mt with
   | false=>rfl
   | true=>exact absurd ⟨s,hs,e⟩ hx
  rw[aA8 hno]at st
  have eu:unl i σ1 σ2=σ2:=by
   unfold unl
   split
   ·rename_i s0 s' h0 h';rw[if_neg (by rw[hno s0 h0];exact Bool.false_ne_true)]
   ·rfl
  rw[eu]
  exact⟨ok2,st⟩
theorem StOk.lendO{l:Option Nat}(ok:StOk Γ H σ σV):StOk Γ H (lendO l σ) σV:=by
 cases l with
 | none=>exact ok
 | some i=>exact ok.lend
theorem wB{l:Option Nat}(ok:StOk Γ H1 σ1 σV)(ok2:StOk Γ H2 σ2 σV2)(st:Step (lendO l σ1) σV H1 σ2 σV2 H2):StOk Γ H2 (aQ7 l σ1 σ2) σV2/\Step σ1 σV H1 (aQ7 l σ1 σ2) σV2 H2:=by
 cases l with
 | none=>exact⟨ok2,st⟩
 | some i=>exact cX1 ok ok2 st
theorem cJ7{l:Option Nat}{r:Res}{v:V}(st:Step (lendO l σ1) σV H1 σ2 σV2 H2)(h:jK Γ H2 σ2 σV2 r v):jK Γ H2 (aQ7 l σ1 σ2) σV2 r v:=by
 cases l with
 | none=>exact h
 | some i=>
   show jK Γ H2 (unl i σ1 σ2) σV2 r v
   have st':Step (lend i σ1) σV H1 σ2 σV2 H2:=st
   unfold unl
   split
   ·rename_i s0 s' h0 h'
    split
    ·rename_i hm
     cases r with
     | val d=>exact h
     | own d=>
       obtain⟨p,e1,e2,e3,e4⟩:=h
       refine⟨p,e1,e2,fun⟨j,t,ej,m,ea⟩=>e3 ?_,e4⟩
       rcases bU ej with⟨z,z2,_⟩ | ⟨z,z2⟩
       ·subst z
        rw[wA h0 hm]at st'
        obtain⟨t2,q1,q2,_⟩:=st'.fix j ⟨.lent,s0.d⟩ (by rw[List.getElem?_set_self (List.getElem?_eq_some_iff.mp h0).1]) (.inr rfl)
        exact⟨j,t2,q1,by rw[q2];exact fun z=>(by cases z),ea⟩
       ·exact⟨j,t,z2,m,ea⟩
     | slot j=>
       obtain⟨e1,t,e2⟩:=h
       refine⟨e1,?_⟩
       by_cases z:j=i
       ·subst z;exact⟨_,by rw[List.getElem?_set_self (List.getElem?_eq_some_iff.mp h').1]⟩
       ·exact⟨t,by rw[List.getElem?_set_ne (Ne.symm z)];exact e2⟩
    ·exact h
   ·exact h
end
structure ItD(J:It)(items:List D)(P:Hp->Prop):Prop where
 go:∀ H i d,P H->items[i]? = some d->J.go i H
 yld:∀ H i d y H',P H->items[i]? = some d->J.yld i H y H'->lX H H'/\Rp H' d y
 stop:∀ H,P H->J.stop items.length H
theorem yJ{J:It}{xs:List V}{P:Hp->Prop}{items:List D}(w:ItIs J xs P):ItD J items (fun H=>P H/\Rps H items xs) where
 go:=fun H i d ⟨h,r⟩ e=>by
  obtain⟨x,ex,_⟩:=r.get e
  exact w.go H i x h ex
 yld:=fun H i d y H' ⟨h,r⟩ e q=>by
  obtain⟨x,ex,rx⟩:=r.get e
  obtain⟨rfl,rfl⟩:=w.yld H i x y H' h ex q
  exact⟨.refl _,rx⟩
 stop:=fun H ⟨h,r⟩=>by
  refine w.stop H _ h ?_
  have:=r.length
  rw[List.getElem?_eq_none_iff]
  omega
abbrev DI:=Sg->Option (List D×Option Nat×Sg)
def dTI(Γ:Gm)(ri:DI):TI:=fun σV H R=>∃ σ,StOk Γ H σ σV/\∃ items l σ1,ri σ=some (items,l,σ1)/\∀ J H1 P,StOk Γ H1 σ1 σV->Step σ σV H σ1 σV H1->ItD J items P ->
 (∀ σ2 σV2 H2,Step (lendO l σ1) σV H1 σ2 σV2 H2->P H2)->R J H1
structure GI(X:Cx)(tg iter:Expr)(ri:DI):Prop where
 to:∀ Γ,PI X tg iter (dTI Γ ri)
theorem piW{X:Cx}{tg e:Expr}{t t':TI}(h:PI X tg e t)(w:∀ σ H Q,t' σ H Q->t σ H Q):PI X tg e t':=fun pins s σ H Q I q=>h pins s σ H Q I (w σ H Q q)
def tO:D->Option (List D)
 | .lst l=>some l
 | .tup l=>some l
 | .str x=>some (iA x)
 | _=>none
def dIt(r:DE):DI:=fun σ=>(r σ).bind fun x=>(rd x.2 x.1).bind fun d=>(tO d).bind fun l=>some (l,(match x.1 with | .slot i=>some i | _=>none),x.2)
theorem fS{H H1:Hp}{p:Addr}{o:HO}(h:H p=some o)(h1:H1 p=some o):eP H1 p=eP H p:=by unfold eP;rw[h,h1]
theorem rH{Γ:Gm}{H1:Hp}{σ2:Sg}{σV:St}{x:Res}{v:V}{d:D}{items:List D}(ok1:StOk Γ H1 σ2 σV)(r1:jK Γ H1 σ2 σV x v)(e2:rd σ2 x=some d)(e3:tO d=some items)(vw:Vw H1 d v) :
  ∀ p b xs,v=.ref p->eP H1 p=some (b,xs)->Rps H1 items xs->∀ σ3 σV3 H3,Step (lendO (match x with | .slot i=>some i | _=>none) σ2) σV H1 σ3 σV3 H3->eP H3 p=some (b,xs)/\Rps H3 items xs:=by
 intro p b xs ev hq hr σ3 σV3 H3 st3
 have ext:Ext H1 H3:=st3.ext (Γ:=Γ) ok1.lendO
 refine⟨?_,hr.mono ext⟩
 cases x with
 | val d'=>
   cases e2
   subst ev
   cases d with
   | tup l'=>obtain⟨_,_,e,h1,_⟩:=fY vw;cases e;rw[fS h1 (ext.tup _ _ h1)];exact hq
   | lst l'=>
     cases r1 with
     | lst h1 _=>rw[fS h1 (ext.frz _ _ _ h1)];exact hq
   | dic ks vs=>cases e3
   | str z=>cases r1
   | _=>cases e3
 | own d'=>
   obtain⟨q,e4,ow,nn,_⟩:=r1
   rw[ev]at e4;cases e4
   obtain⟨o,ho,_⟩:=ow.obj
   rw[fS ho (st3.fr p o ho (fun z=>nn z.nv))];exact hq
 | slot i=>
   obtain⟨r1,s,hs⟩:=r1
   have ok1':StOk Γ H1 σ2 σV:=ok1
   by_cases hm:s.m=.val
   ·obtain⟨w,ew,rw'⟩:=ok1'.rel i s hs
    rw[r1]at ew;cases ew
    subst ev
    obtain⟨m,dd⟩:=s
    cases hm
    have e2':some dd=some d:=by
     have:rd σ2 (.slot i)=some dd:=by show(match σ2[i]? with | some (some s)=>some s.d | _=>none)=_;rw[hs]
     rw[← this];exact e2
    cases e2'
    have rp:Rp H1 d (.ref p):=rw'
    cases d with
    | tup l'=>obtain⟨_,_,e,h1,_⟩:=fY (.inl rp);cases e;rw[fS h1 (ext.tup _ _ h1)];exact hq
    | lst l'=>
      cases rp with
      | lst h1 _=>rw[fS h1 (ext.frz _ _ _ h1)];exact hq
    | dic ks vs=>cases e3
    | str z=>cases rp
    | _=>cases e3
   ·obtain⟨q,eq,ow⟩:=ok1'.ownAt hs hm
    rw[r1]at eq
    have eq:=Option.some.inj (Option.some.inj eq)
    rw[ev]at eq;cases eq
    obtain⟨o,ho,_⟩:=ow.obj
    have nm:¬ oC (lend i σ2) σV p:=by
     rintro⟨j,t,ej,m,ea⟩
     by_cases hmt:s.m.mt=true
     ·rw[wA hs hmt]at ej
      rcases bU ej with⟨_,z2,_⟩ | ⟨z,z2⟩
      ·cases z2;cases m
      ·exact ok1'.dis j i t s p z z2 hs m hm ea (by rw[r1,ev])
     ·rw[aA8 (fun s' hs'=>by rw[hs]at hs';cases hs';exact Bool.eq_false_iff.mpr hmt)]at ej
      by_cases z:j=i
      ·subst z;rw[hs]at ej;cases ej;exact hmt m
      ·exact ok1'.dis j i t s p z ej hs m hm ea (by rw[r1,ev])
    rw[fS ho (st3.fr p o ho nm)];exact hq
theorem lC{X:Cx}{tg e:Expr}{r:DE}(K:PySem.W.Frag)(hK:X.K=K)(h:GE X e r):GI X tg e (dIt r):=.mk fun Γ=>piW (rB K hK (h.to Γ)) fun σV H R ⟨σ,ok,items,l,σ1,e,k⟩=>by
 obtain⟨⟨x,σ2⟩,e1,e⟩:=bind_some e
 obtain⟨d,e2,e⟩:=bind_some e
 obtain⟨its,e3,e⟩:=bind_some e
 cases e
 refine⟨σ,ok,x,_,e1,fun v H1 ok1 r1 st1 f1=>?_⟩
 have vw:=r1.vw ok1 e2
 have stay:=rH ok1 r1 e2 e3 vw
 cases d with
 | lst l'=>
   cases e3
   obtain⟨p,xs,rfl,hq,hr⟩:=jE vw
   refine .inl ⟨xs,hq,k _ H1 _ ok1 st1 (yJ (jR (xs:=xs))) fun σ3 σV3 H3 st3=>?_⟩
   obtain⟨h1,h2⟩:=stay p true xs rfl hq hr σ3 σV3 H3 st3
   exact⟨eY h1,h2⟩
 | tup l'=>
   cases e3
   obtain⟨p,xs,rfl,hq,hr⟩:=fY vw
   refine .inr ⟨xs,cJ hq,k _ H1 _ ok1 st1 (yJ (bR1 (xs:=xs))) fun σ3 σV3 H3 st3=>?_⟩
   obtain⟨h1,h2⟩:=stay p false xs rfl (cJ hq) hr σ3 σV3 H3 st3
   exact⟨dS h1,h2⟩
 | str z=>
   cases e3
   obtain rfl:=lB vw
   exact k _ H1 (fun H=>True/\Rps H (iA z) (eZ z)) ok1 st1 (yJ bR2) fun σ3 σV3 H3 st3=>⟨True.intro,yI z⟩
 | _=>cases e3
def aA9(lo:Int)(n:Nat):List D:=(List.range n).map fun(i:Nat)=>D.int (lo+(i:Int))
theorem aX1{H:Hp}(lo:Int)(n:Nat):Rps H (aA9 lo n) (cH0 lo n):=by
 unfold aA9 cH0
 induction List.range n with
 | nil=>exact .nil
 | cons a r ih=>exact .cons (.int _) ih
def bU6(ra:DA):DI:=fun σ=>(ra σ).bind fun x=>(rds x.2 x.1).bind fun ds=>match ds with
 | [.int j]=>if -(2 ^ 62)<=j/\j < 2 ^ 62 then some (aA9 0 j.toNat,none,x.2)else none
 | [.int i,.int j]=>if(-(2 ^ 62)<=i/\i < 2 ^ 62) /\ -(2 ^ 62)<=j/\j < 2 ^ 62 then some (aA9 i (j-i).toNat,none,x.2)else none
 | _=>none
theorem wC{X:Cx}{tg e:Expr}{ra:DA}(h:∀ Γ,PI X tg e (cF4 (dTA Γ ra)))(h1:∀ σ rs σ',ra σ=some (rs,σ')->rs.length=1):GI X tg e (bU6 ra):=.mk fun Γ=>piW (h Γ) fun σV H R ⟨σ,ok,items,l,σ1,e,k⟩=>by
 obtain⟨⟨x,σ2⟩,e1,e⟩:=bind_some e
 obtain⟨ds,e2,e⟩:=bind_some e
 refine⟨σ,ok,x,_,e1,fun vs H1 ok1 r1 st1 f1=>?_⟩
 have vw:=rF ok1 r1 e2
 have hl:=h1 _ _ _ e1
 dsimp only at e
 split at e
 ·split at e
  ·rename_i hj
   cases e
   cases vw with
   | cons a t=>
     cases t
     obtain rfl:=dB a
     exact⟨_,rfl,hj.1,hj.2,k _ H1 (fun H=>True/\Rps H _ _) ok1 st1 (yJ kO) fun σ3 σV3 H3 st3=>⟨True.intro,aX1 _ _⟩⟩
  ·cases e
 ·exfalso
  cases vw with
  | cons a t=>cases t with
    | cons b t=>
      cases r1 with
      | cons _ q _=>cases q with
        | cons _ q _=>simp at hl
 ·cases e
theorem cJ8{X:Cx}{tg e:Expr}{ra:DA}(h:∀ Γ,PI X tg e (cF5 (dTA Γ ra)))(h1:∀ σ rs σ',ra σ=some (rs,σ')->rs.length=2):GI X tg e (bU6 ra):=.mk fun Γ=>piW (h Γ) fun σV H R ⟨σ,ok,items,l,σ1,e,k⟩=>by
 obtain⟨⟨x,σ2⟩,e1,e⟩:=bind_some e
 obtain⟨ds,e2,e⟩:=bind_some e
 refine⟨σ,ok,x,_,e1,fun vs H1 ok1 r1 st1 f1=>?_⟩
 have vw:=rF ok1 r1 e2
 have hl:=h1 _ _ _ e1
 dsimp only at e
 split at e
 ·exfalso
  cases vw with
  | cons a t=>
    cases t
    cases r1 with
    | cons _ q _=>cases q;simp at hl
 ·split at e
  ·rename_i hj
   cases e
   cases vw with
   | cons a t=>cases t with
     | cons b t=>
       cases t
       obtain rfl:=dB a
       obtain rfl:=dB b
       exact⟨_,_,rfl,⟨hj.1.1,hj.1.2,hj.2.1,hj.2.2⟩,k _ H1 (fun H=>True/\Rps H _ _) ok1 st1 (yJ kO) fun σ3 σV3 H3 st3=>⟨True.intro,aX1 _ _⟩⟩
  ·cases e
 ·cases e
theorem len1{r:DE}:∀ σ rs σ',aC r bD σ=some (rs,σ')->rs.length=1:=fun σ rs σ' e=>by
 obtain⟨x,_,e⟩:=bind_some e
 cases e;rfl
theorem len2{r r':DE}:∀ σ rs σ',aC r (aC r' bD) σ=some (rs,σ')->rs.length=2:=fun σ rs σ' e=>by
 obtain⟨x,_,e⟩:=bind_some e
 obtain⟨y,h,e⟩:=bind_some e
 cases e
 have:=len1 _ _ _ h
 simp[this]
end Dv
namespace Dv
open PySem L2
def bU7(g:DG)(b:DS):List D->Sg->Option Out
 | [],σ=>some (.nx σ)
 | d::r,σ=>(g d σ).bind fun σ1=>(b σ1).bind fun o=>match o with
   | .nx σ2=>bU7 g b r σ2
   | .ct σ2=>bU7 g b r σ2
   | .bk σ2=>some (.nx σ2)
   | .rt x σ2=>some (.rt x σ2)
   | .ex c f σ2=>some (.ex c f σ2)
def aK2(l:Option Nat)(σ0:Sg):Out->Out
 | .nx σ=>.nx (aQ7 l σ0 σ)
 | .rt r σ=>.rt r (aQ7 l σ0 σ)
 | .bk σ=>.bk (aQ7 l σ0 σ)
 | .ct σ=>.ct (aQ7 l σ0 σ)
 | .ex c f σ=>.ex c f (aQ7 l σ0 σ)
def aQ8(ri:DI)(g:DG)(b:DS):DS:=fun σ=>(ri σ).bind fun x=>(bU7 g b x.1 (lendO x.2.1 x.2.2)).bind fun o=>some (aK2 x.2.1 x.2.2 o)
theorem bU8{Γ:Gm}{E:Ex}{own:List Nat}{ri:DI}{g:TG}{gd:DG}{b:DS}(hg:bU4 own g gd){D:Ends}{σV:St}{H:Hp}(h:dTS Γ E (aQ8 ri gd b) D σV H):dC2 (dTI Γ ri) g (dTS Γ E b) D σV H:=by
 obtain⟨σ,ok,o,e,k⟩:=h
 obtain⟨⟨items,l,σ1⟩,e1,e⟩:=bind_some e
 obtain⟨o1,e2,e⟩:=bind_some e
 cases e
 refine⟨σ,ok,items,l,σ1,e1,fun J H1 P ok1 st1 itd stay=>?_⟩
 dsimp only at e2
 -- the end that is wanted of the walk
 have endw:∀ σ2 σV2 H2,StOk Γ H2 σ2 σV2->Step (lendO l σ1) σV H1 σ2 σV2 H2->∀ o2,o2=o1->(∀ σ',o2=.nx σ'->∀ σV' H',StOk Γ H' σ' σV'->Step (lendO l σ1) σV H1 σ' σV' H'->D.nx σV' H'):=by
  intro σ2 σV2 H2 ok2 st2 o2 ho σ' ho' σV' H' ok' st'
  subst ho ho'
  obtain⟨q1,q2⟩:=wB ok1 ok' st'
  exact k σV' H' q1 (st1.trans q2)
 refine⟨fun i m σV2 H2=>m=items.length-i/\i<=items.length/\∃ σ2,bU7 gd b (items.drop i) σ2=some o1/\StOk Γ H2 σ2 σV2/\Step (lendO l σ1) σV H1 σ2 σV2 H2,⟨items.length,by simp,Nat.zero_le _,lendO l σ1,by simpa using e2,ok1.lendO,.refl⟩,?_⟩
 rintro i m σV2 H2 ⟨rfl,hi,σ2,ef,ok2,st2⟩
 have hP:=stay σ2 σV2 H2 st2
 by_cases hlt:i < items.length
 ·have ei:items[i]? = some items[i]:=List.getElem?_eq_getElem hlt
  refine .inr ⟨itd.go H2 i _ hP ei,fun σV3 H3=>∃ m',m' < items.length-i/\m'=items.length-(i+1)/\i+1<=items.length/\∃ σ3,bU7 gd b (items.drop (i+1)) σ3=some o1/\StOk Γ H3 σ3 σV3/\Step (lendO l σ1) σV H1 σ3 σV3 H3,fun σ' H' q=>q,fun y H3 hy=>?_⟩
  obtain⟨sm,ry⟩:=itd.yld H2 i _ y H3 hP ei hy
  rw[List.drop_eq_getElem_cons hlt]at ef
  obtain⟨σ3,eg,ef⟩:=bind_some ef
  obtain⟨ob,eb,ef⟩:=bind_some ef
  refine hg Γ H3 _ _ _ σ2 σV2 _ y σ3 _ (ok2.same sm) (st2.trans (.same sm)) ry eg fun σV3 ok3 st3 _ _=>?_
  refine⟨σ3,ok3,ob,eb,?_⟩
  cases ob with
  | nx σ4=>exact fun σV4 H4 ok4 st4=>⟨_,by omega,rfl,hlt,σ4,ef,ok4,st3.trans st4⟩
  | ct σ4=>exact fun σV4 H4 ok4 st4=>⟨_,by omega,rfl,hlt,σ4,ef,ok4,st3.trans st4⟩
  | bk σ4=>
    cases ef
    exact fun σV4 H4 ok4 st4=>endw σ4 σV4 H4 ok4 (st3.trans st4) _ rfl σ4 rfl σV4 H4 ok4 (st3.trans st4)
  | rt x σ4=>
    cases ef
    intro v σV4 H4 ok4 r4 st4
    obtain⟨q1,q2⟩:=wB ok1 ok4 (st3.trans st4)
    exact k v σV4 H4 q1 (cJ7 (st3.trans st4) r4) (st1.trans q2)
  | ex c f σ4=>
    cases ef
    intro v d σV4 H4 ok4 r4 st4
    obtain⟨q1,q2⟩:=wB ok1 ok4 (st3.trans st4)
    exact k v d σV4 H4 q1 r4 (st1.trans q2)
 ·have e0:i=items.length:=by omega
  subst e0
  rw[List.drop_length]at ef
  cases ef
  exact .inl ⟨itd.stop H2 hP,endw σ2 σV2 H2 ok2 st2 _ rfl σ2 rfl σV2 H2 ok2 st2⟩
theorem rJ{X:Cx}{E:Ex}{own:List Nat}{st:Stmt}{ri:DI}{g:TG}{gd:DG}{b:DS}(hg:bU4 own g gd)(h:∀ Γ,PS X st (dC2 (dTI Γ ri) g (dTS Γ E b))):GS E X st (aQ8 ri gd b):=.mk fun Γ=>psW (h Γ) fun _ _ _=>bU8 hg
def bZ(ow:List Nat)(σ:Sg):Sg:=ow.foldl (fun σ i=>σ.set i none) σ
def nB(ow:List Nat)(σ τ:Sg):Sg:=ow.foldl (fun τ i=>τ.set i (σ[i]?.getD none)) τ
theorem gB{α:Type}:∀ (ow:List Nat) (σ:List (Option α)),(ow.foldl (fun σ i=>σ.set i none) σ).length=σ.length
 | [],_=>rfl
 | i::r,σ=>(gB r (σ.set i none)).trans (by simp)
theorem fD{α:Type}:∀ (ow:List Nat) (σ:List (Option α)) (j:Nat),j∉ow->(ow.foldl (fun σ i=>σ.set i none) σ)[j]? = σ[j]?
 | [],_,_,_=>rfl
 | i::r,σ,j,h=>by
   have h1:i≠j:=fun z=>h (by rw[z];exact List.mem_cons_self)
   have h2:j∉r:=fun z=>h (List.mem_cons_of_mem _ z)
   show(r.foldl _ (σ.set i none))[j]? = _
   rw[fD r _ j h2,List.getElem?_set_ne h1]
theorem cA{α:Type}:∀ (ow:List Nat) (σ:List (Option α)) (j:Nat) (x:α),(ow.foldl (fun σ i=>σ.set i none) σ)[j]? = some (some x)->j∉ow/\σ[j]? = some (some x)
 | [],_,_,_,h=>⟨by simp,h⟩
 | i::r,σ,j,x,h=>by
   obtain⟨h1,h2⟩:=cA r (σ.set i none) j x h
   rcases bU h2 with⟨_,z,_⟩ | ⟨z,z2⟩
   ·cases z
   ·exact⟨by simp[z,h1],z2⟩
theorem oW:∀ (ow:List Nat) (σ τ:Sg),(nB ow σ τ).length=τ.length
 | [],_,_=>rfl
 | i::r,σ,τ=>(oW r σ (τ.set i (σ[i]?.getD none))).trans (by simp)
theorem jZ:∀ (ow:List Nat) (σ τ:Sg) (j:Nat),j∉ow->(nB ow σ τ)[j]? = τ[j]?
 | [],_,_,_,_=>rfl
 | i::r,σ,τ,j,h=>by
   have h1:i≠j:=fun z=>h (by rw[z];exact List.mem_cons_self)
   have h2:j∉r:=fun z=>h (List.mem_cons_of_mem _ z)
   show(nB r σ (τ.set i (σ[i]?.getD none)))[j]? = _
   rw[jZ r σ _ j h2,List.getElem?_set_ne h1]
theorem qK:∀ (ow:List Nat) (σ τ:Sg) (j:Nat),j∈ow->σ.length=τ.length->(nB ow σ τ)[j]? = σ[j]?
 | [],_,_,_,h,_=>by simp at h
 | i::r,σ,τ,j,h,hl=>by
   show(nB r σ (τ.set i (σ[i]?.getD none)))[j]? = _
   by_cases hr:j∈r
   ·exact qK r σ _ j hr (by simp[hl])
   ·rw[jZ r σ _ j hr]
    have:j=i:=by rcases List.mem_cons.mp h with z | z;exact z;exact absurd z hr
    subst this
    by_cases hj:j < τ.length
    ·rw[List.getElem?_set_self hj,List.getElem?_eq_getElem (by omega:j < σ.length)];rfl
    ·rw[List.getElem?_eq_none_iff.mpr (by simp;omega),List.getElem?_eq_none_iff.mpr (by omega)]
section
variable{Γ:Gm}{H H1 H2:Hp}{σ σ1 τ:Sg}{σV σV2 σV3:St}{ow:List Nat}
theorem StOk.blank(ok:StOk Γ H τ σV2)(hl:σV3.length=σV2.length)(hv:∀ j,j∉ow->σV3[j]? = σV2[j]?):StOk Γ H (bZ ow τ) σV3 where
 rel:=fun j t ej=>by
  obtain⟨h1,h2⟩:=cA ow τ j t ej
  rw[hv j h1];exact ok.rel j t h2
 dis:=fun j l t t' q n ej el m m' eq eq'=>by
  obtain⟨h1,h2⟩:=cA ow τ j t ej
  obtain⟨h3,h4⟩:=cA ow τ l t' el
  rw[hv j h1]at eq;rw[hv l h3]at eq'
  exact ok.dis j l t t' q n h2 h4 m m' eq eq'
 own:=fun j t q ej m eq=>by
  obtain⟨h1,h2⟩:=cA ow τ j t ej
  rw[hv j h1]at eq;exact ok.own j t q h2 m eq
 par:=fun j t q ej m eq=>by
  obtain⟨h1,h2⟩:=cA ow τ j t ej
  rw[hv j h1]at eq;exact ok.par j t q h2 m eq
 keep:=ok.keep
 dom:=ok.dom
 len:=by rw[bZ,gB,hl];exact ok.len
theorem Step.blank{σb:Sg}(hb:∀ (j:Nat) t,σb[j]? = some (some t)->j∉ow)(st:Step σb σV H1 τ σV2 H2)(hv:∀ j,j∉ow->σV3[j]? = σV2[j]?):Step σb σV H1 (bZ ow τ) σV3 H2 where
 fr:=st.fr
 dom:=st.dom
 mu:=fun a ⟨j,t,ej,m,ea⟩=>by
  obtain⟨h1,h2⟩:=cA ow τ j t ej
  rw[hv j h1]at ea;exact st.mu a ⟨j,t,h2,m,ea⟩
 nv:=fun a ⟨j,t,ej,m,ea⟩=>by
  obtain⟨h1,h2⟩:=cA ow τ j t ej
  rw[hv j h1]at ea;exact st.nv a ⟨j,t,h2,m,ea⟩
 kp:=fun j t ej=>by
  obtain⟨t',et⟩:=st.kp j t ej
  exact⟨t',by rw[bZ,fD ow τ j (hb j t ej)];exact et⟩
 fix:=fun j t ej m=>by
  obtain⟨t',et,h1,h2,h3⟩:=st.fix j t ej m
  exact⟨t',by rw[bZ,fD ow τ j (hb j t ej)];exact et,h1,h2,by rw[hv j (hb j t ej)];exact h3⟩
 lt:=fun j t ej m=>by
  obtain⟨h1,h2⟩:=cA ow τ j t ej
  exact st.lt j t h2 m
theorem cJ9(ok1:StOk Γ H1 σ1 σV)(ok:StOk Γ H τ σV2)(hv:∀ j,j∉ow->σV2[j]? = σV[j]?)(hl:σV2.length=σV.length)(st:Step (bZ ow σ1) σV2 H1 τ σV2 H) :
  StOk Γ H (nB ow σ1 τ) σV/\Step σ1 σV H1 (nB ow σ1 τ) σV H:=by
 have lens:σ1.length=τ.length:=by rw[ok1.len,ok.len,hl]
 have okb:StOk Γ H1 (bZ ow σ1) σV2:=ok1.blank hl hv
 have ext:Ext H1 H:=st.ext okb
 have get:∀ (j:Nat) t,(nB ow σ1 τ)[j]? = some (some t)->(j∈ow/\σ1[j]? = some (some t))\/(j∉ow/\τ[j]? = some (some t)):=fun j t e=>by
  by_cases h:j∈ow
  ·rw[qK ow σ1 τ j h lens]at e;exact .inl ⟨h,e⟩
  ·rw[jZ ow σ1 τ j h]at e;exact .inr ⟨h,e⟩
 have bget:∀ (j:Nat) t,(bZ ow σ1)[j]? = some (some t)->j∉ow/\σ1[j]? = some (some t):=fun j t e=>cA ow σ1 j t e
 have bput:∀ (j:Nat),j∉ow->(bZ ow σ1)[j]? = σ1[j]?:=fun j h=>fD ow σ1 j h
 have subM:∀ a,oC (bZ ow σ1) σV2 a->∃ (j:Nat) (t:Sl),j∉ow/\σ1[j]? = some (some t)/\t.m.mt=true/\σV[j]? = some (some (.ref a)):=fun a ⟨j,t,ej,m,ea⟩=>by
  obtain⟨h1,h2⟩:=bget j t ej
  rw[hv j h1]at ea;exact⟨j,t,h1,h2,m,ea⟩
 have subN:∀ a,bO0 (bZ ow σ1) σV2 a->∃ (j:Nat) (t:Sl),j∉ow/\σ1[j]? = some (some t)/\t.m≠.val/\σV[j]? = some (some (.ref a)):=fun a ⟨j,t,ej,m,ea⟩=>by
  obtain⟨h1,h2⟩:=bget j t ej
  rw[hv j h1]at ea;exact⟨j,t,h1,h2,m,ea⟩
 have cross:∀ (j l:Nat) t t' q,j∈ow->σ1[j]? = some (some t)->l∉ow->τ[l]? = some (some t')->t.m≠.val->t'.m≠.val->(t.m.mt=true\/t'.m.mt=true)->σV[j]? = some (some (.ref q))->σV[l]? = some (some (.ref q))->False:=by
  intro j l t t' q hj ej hln el m m' mm eq eq'
  rw[← hv l hln]at eq'
  obtain⟨p,ep,ow'⟩:=ok1.ownAt ej m
  rw[eq]at ep
  have ep:=Option.some.inj (Option.some.inj ep)
  cases ep
  obtain⟨o,ho,_⟩:=ow'.obj
  rcases mm with mm | mm
  ·rcases st.nv q ⟨l,t',el,m',eq'⟩with z | z
   ·obtain⟨l',t2,h1,h2,h3,h4⟩:=subN q z
    exact ok1.dis j l' t t2 q (fun y=>h1 (by rw[← y];exact hj)) ej h2 mm h3 eq h4
   ·rw[ho]at z;cases z
  ·rcases st.mu q ⟨l,t',el,mm,eq'⟩with z | z
   ·obtain⟨l',t2,h1,h2,h3,h4⟩:=subM q z
    exact ok1.dis l' j t2 t q (fun y=>h1 (by rw[y];exact hj)) h2 ej h3 m h4 eq
   ·rw[ho]at z;cases z
 constructor
 ·refine⟨fun j t ej=>?_,fun j l t t' q n ej el m m' eq eq'=>?_,fun j t q ej m eq=>?_,fun j t q ej m eq=>?_,ok.keep,ok.dom,by rw[oW,ok.len,hl]⟩
  ·rcases get j t ej with⟨h,e⟩ | ⟨h,e⟩
   ·obtain⟨w,ew,r⟩:=ok1.rel j t e
    refine⟨w,ew,r.mono ext fun p o ep m hp=>st.fr p o hp fun z=>?_⟩
    obtain⟨l',t2,h1,h2,h3,h4⟩:=subM p z
    exact ok1.dis l' j t2 t p (fun y=>h1 (by rw[y];exact h)) h2 e h3 m h4 (by rw[ew,ep])
   ·obtain⟨w,ew,r⟩:=ok.rel j t e
    exact⟨w,by rw[← hv j h];exact ew,r⟩
  ·rcases get j t ej with⟨h,e⟩ | ⟨h,e⟩
   ·rcases get l t' el with⟨h',e'⟩ | ⟨h',e'⟩
    ·exact ok1.dis j l t t' q n e e' m m' eq eq'
    ·exact cross j l t t' q h e h' e' (hZ m) m' (.inl m) eq eq'
   ·rcases get l t' el with⟨h',e'⟩ | ⟨h',e'⟩
    ·exact cross l j t' t q h' e' h e m' (hZ m) (.inr m) eq' eq
    ·rw[← hv j h]at eq;rw[← hv l h']at eq'
     exact ok.dis j l t t' q n e e' m m' eq eq'
  ·rcases get j t ej with⟨h,e⟩ | ⟨h,e⟩
   ·exact ok1.own j t q e m eq
   ·rw[← hv j h]at eq;exact ok.own j t q e m eq
  ·rcases get j t ej with⟨h,e⟩ | ⟨h,e⟩
   ·exact ok1.par j t q e m eq
   ·rw[← hv j h]at eq;exact ok.par j t q e m eq
 ·refine⟨fun a o e n=>st.fr a o e fun z=>?_,st.dom,fun a ⟨j,t,ej,m,ea⟩=>?_,fun a ⟨j,t,ej,m,ea⟩=>?_,fun j t ej=>?_,fun j t ej m=>?_,fun j t ej m=>?_⟩
  ·obtain⟨l',t2,h1,h2,h3,h4⟩:=subM a z
   exact n ⟨l',t2,h2,h3,h4⟩
  ·rcases get j t ej with⟨h,e⟩ | ⟨h,e⟩
   ·exact .inl ⟨j,t,e,m,ea⟩
   ·rw[← hv j h]at ea
    rcases st.mu a ⟨j,t,e,m,ea⟩with z | z
    ·obtain⟨l',t2,h1,h2,h3,h4⟩:=subM a z
     exact .inl ⟨l',t2,h2,h3,h4⟩
    ·exact .inr z
  ·rcases get j t ej with⟨h,e⟩ | ⟨h,e⟩
   ·exact .inl ⟨j,t,e,m,ea⟩
   ·rw[← hv j h]at ea
    rcases st.nv a ⟨j,t,e,m,ea⟩with z | z
    ·obtain⟨l',t2,h1,h2,h3,h4⟩:=subN a z
     exact .inl ⟨l',t2,h2,h3,h4⟩
    ·exact .inr z
  ·by_cases h:j∈ow
   ·exact⟨t,by rw[qK ow σ1 τ j h lens];exact ej⟩
   ·obtain⟨t',et⟩:=st.kp j t (by rw[bput j h];exact ej)
    exact⟨t',by rw[jZ ow σ1 τ j h];exact et⟩
  ·by_cases h:j∈ow
   ·exact⟨t,by rw[qK ow σ1 τ j h lens];exact ej,rfl,fun _=>rfl,rfl⟩
   ·obtain⟨t',et,h1,h2,h3⟩:=st.fix j t (by rw[bput j h];exact ej) m
    exact⟨t',by rw[jZ ow σ1 τ j h];exact et,h1,h2,rfl⟩
  ·rcases get j t ej with⟨h,e⟩ | ⟨h,e⟩
   ·exact⟨t,e,m⟩
   ·obtain⟨t1,e1,m1⟩:=st.lt j t e m
    exact⟨t1,(bget j t1 e1).2,m1⟩
end
def aB0(ow:List Nat)(g:DG)(t:DT)(e:DE):List D->Sg->Option (List D×Sg)
 | [],τ=>some ([],τ)
 | d :: r,τ=>(g d τ).bind fun τ1=>(t τ1).bind fun x=>if x.1=true then(e x.2).bind fun y=>match y.1 with
     | .val d'=>(aB0 ow g t e r (bZ ow y.2)).bind fun z=>some (d'::z.1,z.2)
     | _=>none else aB0 ow g t e r (bZ ow x.2)
def wD:DT:=fun σ=>some (true,σ)
def kX(ow:List Nat)(ri:DI)(g:DG)(t:DT)(e:DE):DE:=fun σ=>(ri σ).bind fun x=>if x.1.length<=sizeLine then(aB0 ow g t e x.1 (bZ ow (lendO x.2.1 x.2.2))).bind fun y=>
 some (.own (.lst y.1),aQ7 x.2.1 x.2.2 (nB ow (lendO x.2.1 x.2.2) y.2))else none
theorem yK{Γ:Gm}{ow:List Nat}{ri:DI}{g:TG}{gd:DG}{t:DT}{e:DE}(hg:bU4 ow g gd){σV:St}{H:Hp}{Q:VK}(h:dTE Γ (kX ow ri gd t e) σV H Q) :
  aN2 ow (dTI Γ ri) g (dTT Γ t) (dTE Γ e) σV H Q:=by
 obtain⟨σ,ok,res,σ',er,k⟩:=h
 obtain⟨⟨items,l,σ1⟩,e1,er⟩:=bind_some er
 dsimp only at er
 split at er
 case isFalse=>cases er
 case isTrue hlen=>
 obtain⟨⟨all,τe⟩,e2,er⟩:=bind_some er
 cases er
 refine⟨σ,ok,items,l,σ1,e1,fun J H1 P ok1 st1 itd stay=>?_⟩
 have bl:(blank ow σV).length=σV.length:=gB ow σV
 have bo:∀ j,j∉ow->(blank ow σV)[j]? = σV[j]?:=fun j hj=>fD ow σV j hj
 have okL:StOk Γ H1 (lendO l σ1) σV:=ok1.lendO
 have okB:StOk Γ H1 (bZ ow (lendO l σ1)) (blank ow σV):=okL.blank bl bo
 have hb:∀ (j:Nat) t,(bZ ow (lendO l σ1))[j]? = some (some t)->j∉ow:=fun j t ej=>(cA ow _ j t ej).1
 -- a step within,as a step of the whole
 have whole:∀ τ H2,StOk Γ H2 τ (blank ow σV)->Step (bZ ow (lendO l σ1)) (blank ow σV) H1 τ (blank ow σV) H2->StOk Γ H2 (nB ow (lendO l σ1) τ) σV/\Step (lendO l σ1) σV H1 (nB ow (lendO l σ1) τ) σV H2:=
  fun τ H2 ok2 st2=>cJ9 okL ok2 bo bl st2
 refine⟨fun i m ys H2=>m=items.length-i/\i<=items.length/\∃ τ don dI,aB0 ow gd t e (items.drop i) τ=some (dI,τe)/\don++dI=all/\don.length<=i/\Rps H2 don ys/\StOk Γ H2 τ (blank ow σV)/\Step (bZ ow (lendO l σ1)) (blank ow σV) H1 τ (blank ow σV) H2,
  ⟨items.length,by simp,Nat.zero_le _,bZ ow (lendO l σ1),[],all,by simpa using e2,rfl,Nat.zero_le _,.nil,okB,.refl⟩,?_⟩
 rintro i m ys H2 ⟨rfl,hi,τ,don,dI,ec,hall,hdl,hr,ok2,st2⟩
 have hyl:=hr.length
 obtain⟨okw,stw⟩:=whole τ H2 ok2 st2
 have hP:=stay _ σV H2 stw
 refine⟨by omega,?_⟩
 by_cases hlt:i < items.length
 ·have ei:items[i]? = some items[i]:=List.getElem?_eq_getElem hlt
  refine .inr ⟨itd.go H2 i _ hP ei,fun y H3 hy=>?_⟩
  obtain⟨sm,ry⟩:=itd.yld H2 i _ y H3 hP ei hy
  rw[List.drop_eq_getElem_cons hlt]at ec
  obtain⟨τ1,eg,ec⟩:=bind_some ec
  obtain⟨⟨b,τ2⟩,et,ec⟩:=bind_some ec
  refine hg Γ H3 _ _ _ τ (blank ow σV) _ y τ1 _ (ok2.same sm) (st2.trans (.same sm)) ry eg fun σV3 ok3 st3 l3 f3=>?_
  have ext3:Ext H2 H3:=.same sm
  refine⟨τ1,ok3,b,τ2,et,fun H4 ok4 st4=>?_⟩
  have ext4:Ext H3 H4:=st4.ext ok3
  dsimp only at ec
  split at ec
  ·rename_i hbt
   dsimp only
   rw[if_pos hbt]
   obtain⟨⟨r5,τ3⟩,ee,ec⟩:=bind_some ec
   refine⟨τ2,ok4,r5,τ3,ee,fun v H5 ok5 r5' st5 f5=>?_⟩
   dsimp only at ec
   split at ec
   ·rename_i d'
    obtain⟨⟨rest',τe'⟩,ec',ec⟩:=bind_some ec
    cases ec
    refine⟨_,by omega,rfl,hlt,bZ ow τ3,don++[d'],rest',ec',by rw[← hall];simp,by simp;omega,?_,ok5.blank (by rw[l3]) (fun j hj=>((f3 j hj).1).symm),Step.blank hb ((st3.trans st4).trans st5) fun j hj=>((f3 j hj).1).symm⟩
    exact((hr.mono ext3).mono ext4 |>.mono (st5.ext ok4)).append (.cons r5' .nil)
   ·cases ec
  ·rename_i hbf
   dsimp only
   rw[if_neg hbf]
   refine⟨_,by omega,rfl,hlt,bZ ow τ2,don,dI,ec,hall,by omega,(hr.mono ext3).mono ext4,ok4.blank (by rw[l3]) (fun j hj=>((f3 j hj).1).symm),Step.blank hb (st3.trans st4) fun j hj=>((f3 j hj).1).symm⟩
 ·have e0:i=items.length:=by omega
  subst e0
  rw[List.drop_length]at ec
  cases ec
  rw[List.append_nil]at hall
  subst hall
  refine .inl ⟨itd.stop H2 hP,fun p hp=>?_⟩
  obtain⟨okU,stU⟩:=wB ok1 okw stw
  have sm:lX H2 (upd H2 p (.lst ys)):=bR hp
  have nw:yF H2 (upd H2 p (.lst ys)) (.own (.lst don)) (.ref p):=⟨p,rfl,hp,ys,aG,hr.mono (.same sm)⟩
  exact k _ _ (okU.same sm) (nw.res okU) ((st1.trans stU).trans (.same sm)) (nw.frh.back (st1.trans stU))
theorem lQ{X:Cx}{ow:List Nat}{ex:Expr}{ri:DI}{g:TG}{gd:DG}{t:DT}{e:DE}(hg:bU4 ow g gd)(h:∀ Γ,PE X ex (aN2 ow (dTI Γ ri) g (dTT Γ t) (dTE Γ e))):GE X ex (kX ow ri gd t e):=.mk fun Γ=>peW (h Γ) fun _ _ _=>yK hg
theorem kR{X:Cx}{Γ:Gm}:cB1 X [] (dTT Γ wD):=fun pins s σ H Q I ⟨τ,ok,b,σ',e,k⟩=>pV pins s σ H Q I (by cases e;exact k H ok .refl)
theorem wE{X:Cx}{Γ:Gm}{c:Expr}{t:DT}(h:GT X c t):cB1 X [c] (dTT Γ t):=aH0 (h.to Γ)
theorem tP{X:Cx}{E:Ex}{ow:List Nat}{i:Nat}{st:Stmt}{ri:DI}{g:TG}{gd:DG}{t:DT}{e:DE}(hg:bU4 ow g gd)(h:∀ Γ,PS X st (fun D σ H=>aN2 ow (dTI Γ ri) g (dTT Γ t) (dTE Γ e) σ H fun v H1=>D.nx (σ.set i (some v)) H1)):GS E X st (fL i (kX ow ri gd t e)):=.mk fun Γ=>psW (h Γ) fun D σV H h=>yK hg (aK1 h)
end Dv
namespace Dv
open PySem L2
abbrev Run:=List Sl->Option (Res×List Sl)
structure ArgOk(H:Hp)(as:List Sl)(vs:List V):Prop where
 len:as.length=vs.length
 rel:∀ (i:Nat) s,as[i]? = some s->∃ v,vs[i]? = some v/\bT7 H s v
 dis:∀ (i j:Nat) s t p,i≠j->as[i]? = some s->as[j]? = some t->s.m.mt=true->t.m≠.val->vs[i]? = some (.ref p)->vs[j]? = some (.ref p)->False
 own:∀ (i:Nat) s,as[i]? = some s->s.m≠.own
def aX2(as:List Sl)(vs:List V)(a:Addr):Prop:=∃ (i:Nat) (s:Sl),as[i]? = some s/\s.m.mt=true/\vs[i]? = some (.ref a)
structure PostOk(as:List Sl)(vs:List V)(H:Hp)(as':List Sl)(H':Hp):Prop where
 rel:∀ (i:Nat) s,as[i]? = some s->s.m.mt=true->∃ s' v,as'[i]? = some s'/\s'.m=s.m/\vs[i]? = some v/\bT7 H' s' v
 fr:∀ a o,H a=some o->¬ aX2 as vs a->H' a=some o
 dom:∀ a,H' a=none->H a=none
def dsp(n:Nat)(run:Run):Sp:=fun vs H Q _=>∃ as res as',ArgOk H as vs/\as.length=n/\run as=some (res,as')/\∀ v H',PostOk as vs H as' H'->yF H H' res v->Q v H'
def aX3(σ:Sg):Res->Option Res
 | .val d=>some (.val d)
 | .own d=>some (.own d)
 | .slot i=>match σ[i]? with
   | some (some s)=>if s.m=.own then some (.own s.d)else if s.m=.val then some (.val s.d)else none
   | _=>none
def mB:List Sl->Sg->List Sl
 | [],_=>[]
 | a::as,some s::σ=>(if a.m=.val then a else s)::mB as σ
 | a::as,_::σ=>a::mB as σ
 | a::as,[]=>a::as
def ini(len:Nat)(as:List Sl):Sg:=as.map some++List.replicate (len-as.length) none
def wF(len:Nat)(body:DS):Run:=fun as=>(body (ini len as)).bind fun o=>match o with
 | .nx σ=>some (.val .non,mB as σ)
 | .rt r σ=>(aX3 σ r).bind fun r'=>some (r',mB as σ)
 | _=>none
theorem eL{len:Nat}{as:List Sl}{i:Nat}{s:Sl}:(ini len as)[i]? = some (some s)↔as[i]? = some s:=by
 unfold ini
 by_cases h:i < as.length
 ·rw[List.getElem?_append_left (by simpa using h),List.getElem?_map]
  cases as[i]? <;> simp
 ·rw[List.getElem?_append_right (by simpa using h),List.getElem?_replicate,List.getElem?_eq_none_iff.mpr (by omega)]
  split<;>simp
theorem cY{N:List Str}{vs:List V}{i:Nat}{v:V}:(L2.dJ N vs)[i]? = some (some v)↔vs[i]? = some v:=by
 unfold L2.dJ
 by_cases h:i < vs.length
 ·rw[List.getElem?_append_left (by simpa using h),List.getElem?_map]
  cases vs[i]? <;> simp
 ·rw[List.getElem?_append_right (by simpa using h),List.getElem?_replicate,List.getElem?_eq_none_iff.mpr (by omega)]
  split<;>simp
theorem wG:∀ {as:List Sl} {σ:Sg} {i:Nat} {a s:Sl},as[i]? = some a->σ[i]? = some (some s)->(mB as σ)[i]? = some (if a.m=.val then a else s)
 | [],_,_,_,_,h,_=>by simp at h
 | _::_,[],_,_,_,_,h=>by simp at h
 | a::as,o::σ,0,a',s,h,h'=>by
   simp at h h'
   subst h h'
   unfold mB
   simp
 | a::as,o::σ,i+1,a',s,h,h'=>by
   have:=wG (as:=as) (σ:=σ) (i:=i) (a:=a') (s:=s) (by simpa using h) (by simpa using h')
   cases o<;>(unfold mB;simpa using this)
section
variable{P:Program}{w:World}{K:PySem.W.Frag}{mg:Str->Option Value}{base:Heap}
abbrev MS:=Sg->(Out->Prop)->Prop
abbrev MC:=List Sl->(Res->List Sl->Prop)->Prop
def bO2(m:MS):Prop:=∀ σ (Q Q':Out->Prop),(∀ o,Q o->Q' o)->m σ Q->m σ Q'
def mTS(Γ:Gm)(E:Ex)(m:MS):TS:=fun D σV H=>∃ σ,StOk Γ H σ σV/\m σ fun o=>aW9 Γ E σ σV H o D
structure GM(E:Ex)(X:Cx)(ss:List Stmt)(m:MS):Prop where
 to:∀ Γ,PSs X ss (mTS Γ E m)
 mon:bO2 m
def bU9(n:Nat)(C:MC):Sp:=fun vs H Q _=>∃ as,ArgOk H as vs/\as.length=n/\C as fun res as'=>∀ v H',PostOk as vs H as' H'->yF H H' res v->Q v H'
def dK2(as:List Sl)(K:Res->List Sl->Prop)(o:Out):Prop:=match o with
 | .nx σ=>K (.val .non) (mB as σ)
 | .rt r σ=>∃ r',aX3 σ r=some r'/\K r' (mB as σ)
 | _=>False
def dD0(len:Nat)(m:MS):MC:=fun as K=>m (ini len as) (dK2 as K)
theorem aX4{x qual:Str}{st:Stmt}{f:Addr}{fd:FuncData}{N ps:List Str}{k:Nat}(F:Fun K x qual st f fd)(S:FnScope N ps (aP st))(hNl:ps.length<=N.length)(m:MS)(hm:bO2 m)
  (hb:∀ (cdv:Value) (A:Around) (outer:List Env) (s:Shared) (H:Hp) (E:XK),Room k (A.deeper (PyProof.Rows.envOfC qual (aP st) s.heap.objs.size f cdv))->∀ Γ,PSs (zJ CX0 P w K mg base N qual (aP st) f cdv A outer s H E).nox (jP st) (mTS Γ Ex.no m)) :
  FnOk P w K mg base CX0 (k+1) f fd ps (bU9 ps.length (dD0 N.length m)):=by
 refine F.ok S (fun vs H Q E ⟨as,ok,hl,_⟩=>by rw[← ok.len];exact hl) fun cdv A outer s H vs Q E hr h=>?_
 obtain⟨as,ok,hl,h⟩:=h
 refine⟨_,hb cdv A outer s H E hr ⟨H,aX2 as vs⟩,ini N.length as,?_,hm _ _ _ (fun o k=>?_) h⟩
 ·refine⟨fun i s e=>?_,fun i j s t p n ei ej m m' e e'=>?_,fun i s p ei m=>?_,fun i s p ei m e=>?_,fun a o e _=>e,fun a e=>e,?_⟩
  ·obtain⟨v,e1,r⟩:=ok.rel i s (eL.mp e)
   exact⟨v,cY.mpr e1,r⟩
  ·exact ok.dis i j s t p n (eL.mp ei) (eL.mp ej) m m' (cY.mp e) (cY.mp e')
  ·exact absurd m (ok.own i s (eL.mp ei))
  ·exact⟨i,s,eL.mp ei,by rw[m];rfl,cY.mp e⟩
  ·unfold ini L2.dJ
   have:=ok.len
   simp;omega
 ·have post:∀ σ σV' H',StOk ⟨H,aX2 as vs⟩ H' σ σV'->Step (ini N.length as) (L2.dJ N vs) H σ σV' H'->PostOk as vs H (mB as σ) H':=fun σ σV' H' ok' st'=>by
   have nl:∀ a,oC (ini N.length as) (L2.dJ N vs) a->aX2 as vs a:=fun a ⟨j,t,ej,m,ea⟩=>⟨j,t,eL.mp ej,m,cY.mp ea⟩
   refine⟨fun i a ei m=>?_,fun a o e n=>st'.fr a o e fun z=>n (nl a z),st'.dom⟩
   have hp:a.m=.par:=by
    have h0:=ok.own i a ei
    cases q:a.m with
    | par=>rfl
    | own=>exact absurd q h0
    | val=>rw[q]at m;cases m
    | lent=>rw[q]at m;cases m
   obtain⟨s',es,ms,_,ev⟩:=st'.fix i a (eL.mpr ei) (.inl hp)
   obtain⟨v,e1,r⟩:=ok'.rel i s' es
   obtain⟨v0,e0,_⟩:=ok.rel i a ei
   have:some (some v)=some (some v0):=by rw[← e1,ev];exact cY.mpr e0
   cases this
   refine⟨s',v,?_,ms,e0,r⟩
   rw[wG ei es,if_neg (by rw[hp];exact fun z=>nomatch z)]
  cases o with
  | nx σ=>
    exact fun σV' H' ok' st'=>k .non H' (post σ σV' H' ok' st') .non
  | rt r σ=>
    obtain⟨res,e1,k⟩:=k
    intro v σV' H' ok' r1 st'
    refine k v H' (post σ σV' H' ok' st') ?_
    cases r with
    | val d=>cases e1;exact r1
    | own d=>
      cases e1
      obtain⟨p,q1,q2,q3,q4⟩:=r1
      exact⟨p,q1,q4,q2⟩
    | slot i=>
      obtain⟨q1,s',q2⟩:=r1
      have e1':(match σ[i]? with | some (some s)=>if s.m=.own then some (Res.own s.d)else if s.m=.val then some (.val s.d)else none | _=>none)=some res:=e1
      rw[q2]at e1'
      dsimp only at e1'
      obtain⟨v',ev,rv⟩:=ok'.rel i s' q2
      rw[q1]at ev;cases ev
      split at e1'
      ·rename_i hm
       cases e1'
       obtain⟨p,rfl,ow⟩:=(cZ (by rw[hm];exact fun z=>nomatch z)).mp rv
       exact⟨p,rfl,ok'.own i s' p q2 hm q1,ow⟩
      ·split at e1'
       ·rename_i hm
        cases e1'
        obtain⟨m,d⟩:=s'
        cases hm
        exact rv
       ·cases e1'
  | bk σ=>exact k.elim
  | ct σ=>exact k.elim
  | ex c f σ=>exact k.elim
theorem dO{x qual:Str}{st:Stmt}{f:Addr}{fd:FuncData}{N ps:List Str}{k:Nat}(F:Fun K x qual st f fd)(S:FnScope N ps (aP st))(hNl:ps.length<=N.length)(body:DS)
  (hb:∀ (cdv:Value) (A:Around) (outer:List Env) (s:Shared) (H:Hp) (E:XK),Room k (A.deeper (PyProof.Rows.envOfC qual (aP st) s.heap.objs.size f cdv))->GSs Ex.no (zJ CX0 P w K mg base N qual (aP st) f cdv A outer s H E).nox (jP st) body) :
  FnOk P w K mg base CX0 (k+1) f fd ps (dsp ps.length (wF N.length body)):=
 (aX4 F S hNl (fun σ Q=>∃ o,body σ=some o/\Q o) (fun σ Q Q' w ⟨o,e,q⟩=>⟨o,e,w o q⟩) fun cdv A outer s H E hr Γ=>cW5 ((hb cdv A outer s H E hr).to Γ) fun D σV H ⟨σ,ok,o,e,q⟩=>⟨σ,ok,o,e,q⟩).imp
  fun vs H Q E ⟨as,res,as',ok,hl,hrun,k⟩=>by
   obtain⟨o,eo,hrun⟩:=bind_some hrun
   refine⟨as,ok,hl,o,eo,?_⟩
   cases o with
   | nx σ=>cases hrun;exact k
   | rt r σ=>
     obtain⟨r',e1,hrun⟩:=bind_some hrun
     cases hrun
     exact⟨_,e1,k⟩
   | bk σ=>cases hrun
   | ct σ=>cases hrun
   | ex c f σ=>cases hrun
end
def aB1(σ:Sg):Res->Option Sl
 | .val d=>some ⟨.val,d⟩
 | .own d=>some ⟨.par,d⟩
 | .slot i=>match σ[i]? with
   | some (some s)=>some ⟨if s.m.mt=true then .par else s.m,s.d⟩
   | _=>none
def rK(σ:Sg):List Res->Option (List Sl)
 | []=>some []
 | r::rs=>(aB1 σ r).bind fun a=>(rK σ rs).bind fun as=>some (a::as)
def bO3(i:Nat):List Res->Bool
 | []=>false
 | .slot j::rs=>decide (i=j)||bO3 i rs
 | _::rs=>bO3 i rs
def eR:List Res->Bool
 | []=>true
 | .slot i::rs=>!bO3 i rs&&eR rs
 | _::rs=>eR rs
def kA(j:Nat):List Res->List Sl->Option Sl
 | .slot i::rs,a::as=>if i=j then some a else kA j rs as
 | _::rs,_::as=>kA j rs as
 | _,_=>none
def iY(rs:List Res)(as:List Sl):Nat->Sg->Sg
 | _,[]=>[]
 | k,some s::σ=>(match kA k rs as with
   | some a=>some (if s.m.mt=true then⟨s.m,a.d⟩else s)
   | none=>some s)::iY rs as (k+1) σ
 | k,none::σ=>none::iY rs as (k+1) σ
def bL(n:Nat)(run:Run)(ra:DA):DE:=fun σ=>(ra σ).bind fun x=>(rK x.2 x.1).bind fun as=>if as.length=n/\eR x.1=true then(run as).bind fun y=>some (y.1,iY x.1 y.2 0 x.2)else none
theorem tQ{σ:Sg}:∀ {rs:List Res} {as:List Sl},rK σ rs=some as->as.length=rs.length/\∀ (k:Nat) r,rs[k]? = some r->∃ a,as[k]? = some a/\aB1 σ r=some a
 | [],as,h=>by cases h;exact⟨rfl,fun k r e=>by simp at e⟩
 | r::rs,as,h=>by
   obtain⟨a,e1,h⟩:=bind_some h
   obtain⟨as',e2,h⟩:=bind_some h
   cases h
   obtain⟨l,g⟩:=tQ e2
   refine⟨by simp[l],fun k r' e=>?_⟩
   cases k with
   | zero=>simp at e;subst e;exact⟨a,rfl,e1⟩
   | succ k=>
     obtain⟨a',h1,h2⟩:=g k r' (by simpa using e)
     exact⟨a',by simpa using h1,h2⟩
theorem ResOks.get{Γ:Gm}{H:Hp}{σ:Sg}{σV:St}:∀ {rs:List Res} {vs:List V},ResOks Γ H σ σV rs vs->rs.length=vs.length/\∀ (k:Nat) r,rs[k]? = some r->∃ v,vs[k]? = some v/\jK Γ H σ σV r v
 | _,_,.nil=>⟨rfl,fun k r e=>by simp at e⟩
 | _,_,.cons h t _=>by
   obtain⟨l,g⟩:=ResOks.get t
   refine⟨by simp[l],fun k r' e=>?_⟩
   cases k with
   | zero=>simp at e;subst e;exact⟨_,rfl,h⟩
   | succ k=>
     obtain⟨a',h1,h2⟩:=g k r' (by simpa using e)
     exact⟨a',by simpa using h1,h2⟩
theorem ResOks.dis{Γ:Gm}{H:Hp}{σ:Sg}{σV:St}:∀ {rs:List Res} {vs:List V},ResOks Γ H σ σV rs vs->∀ (k l:Nat) d d' p,k < l->rs[k]? = some (.own d)->rs[l]? = some (.own d')->vs[k]? = some (.ref p)->vs[l]? ≠ some (.ref p)
 | _,_,.nil,k,l,d,d',p,_,e,_,_=>by simp at e
 | _,_,.cons h t q,k,l,d,d',p,hkl,e,e',ev=>by
   cases l with
   | zero=>omega
   | succ l=>
     cases k with
     | zero=>
       simp at e ev
       subst e ev
       intro z
       exact q d p rfl rfl l d' (by simpa using e') (by simpa using z)
     | succ k=>
       intro z
       exact ResOks.dis t k l d d' p (by omega) (by simpa using e) (by simpa using e') (by simpa using ev) (by simpa using z)
theorem qL{i:Nat}:∀ {rs:List Res} {k:Nat},rs[k]? = some (.slot i)->bO3 i rs=true
 | [],_,h=>by simp at h
 | r::rs,0,h=>by simp at h;subst h;simp[bO3]
 | r::rs,k+1,h=>by
   have:=qL (rs:=rs) (k:=k) (by simpa using h)
   cases r<;>simp[bO3,this]
theorem oE:∀ {rs:List Res},eR rs=true->∀ (k l i:Nat),rs[k]? = some (.slot i)->rs[l]? = some (.slot i)->k=l
 | [],_,k,l,i,h,_=>by simp at h
 | r::rs,hn,k,l,i,h,h'=>by
   cases k with
   | zero=>
     cases l with
     | zero=>rfl
     | succ l=>
       simp at h
       subst h
       unfold eR at hn
       rw[Bool.and_eq_true]at hn
       rw[qL (k:=l) (by simpa using h')]at hn
       simp at hn
   | succ k=>
     cases l with
     | zero=>
       simp at h'
       subst h'
       unfold eR at hn
       rw[Bool.and_eq_true]at hn
       rw[qL (k:=k) (by simpa using h)]at hn
       simp at hn
     | succ l=>
       have hn':eR rs=true:=by
        cases r with
        | slot j=>unfold eR at hn;rw[Bool.and_eq_true]at hn;exact hn.2
        | val d=>exact hn
        | own d=>exact hn
       exact congrArg Nat.succ (oE hn' k l i (by simpa using h) (by simpa using h'))
theorem fT{j:Nat}:∀ {rs:List Res} {as:List Sl} {a:Sl},kA j rs as=some a->∃ k:Nat,rs[k]? = some (.slot j)/\as[k]? = some a
 | [],_,_,h=>by simp[kA]at h
 | r::rs,[],_,h=>by cases r<;>simp[kA]at h
 | r::rs,a::as,b,h=>by
   cases r with
   | slot i=>
     have h':(if i=j then some a else kA j rs as)=some b:=h
     split at h'
     ·rename_i e;cases h';subst e;exact⟨0,rfl,rfl⟩
     ·obtain⟨k,h1,h2⟩:=fT h'
      exact⟨k+1,by simpa using h1,by simpa using h2⟩
   | val d=>obtain⟨k,h1,h2⟩:=fT (rs:=rs) (as:=as) h;exact⟨k+1,by simpa using h1,by simpa using h2⟩
   | own d=>obtain⟨k,h1,h2⟩:=fT (rs:=rs) (as:=as) h;exact⟨k+1,by simpa using h1,by simpa using h2⟩
def nD(rs:List Res)(as:List Sl)(k:Nat)(o:Option Sl):Option Sl:=match o with
 | some s=>(match kA k rs as with
   | some a=>some (if s.m.mt=true then⟨s.m,a.d⟩else s)
   | none=>some s)
 | none=>none
theorem kB{rs:List Res}{as:List Sl}:∀ (k:Nat) (σ:Sg) (j:Nat),(iY rs as k σ)[j]? = (σ[j]?).map (nD rs as (k+j))
 | _,[],_=>by simp[iY]
 | k,o::σ,0=>by cases o<;>simp[iY,nD]
 | k,o::σ,j+1=>by
   have:=kB (rs:=rs) (as:=as) (k+1) σ j
   have e:k+1+j=k+(j+1):=by omega
   rw[e]at this
   cases o<;>simpa[iY]using this
theorem oX{rs:List Res}{as:List Sl}:∀ (k:Nat) (σ:Sg),(iY rs as k σ).length=σ.length
 | _,[]=>rfl
 | k,o::σ=>by cases o<;>simp[iY,oX (k+1) σ]
theorem yL{Γ:Gm}{σ σ1:Sg}{rs:List Res}{as:List Sl}{σV:St}{H H1:Hp}{vs:List V}(e2:rK σ1 rs=some as)(hc:eR rs=true)(ok1:StOk Γ H1 σ1 σV)(r1:ResOks Γ H1 σ1 σV rs vs)(st1:Step σ σV H σ1 σV H1)
  (f1:∀ (j:Nat) d p,rs[j]? = some (.own d)->vs[j]? = some (.ref p)->H p=none) :
  ArgOk H1 as vs/\∀ r as' v H2,PostOk as vs H1 as' H2->yF H1 H2 r v->StOk Γ H2 (iY rs as' 0 σ1) σV/\jK Γ H2 (iY rs as' 0 σ1) σV r v/\Step σ σV H (iY rs as' 0 σ1) σV H2/\Frh H r v:=by
 obtain⟨la,ga⟩:=tQ e2
 obtain⟨lv,gv⟩:=r1.get
 have arg:∀ (i:Nat) a,as[i]? = some a->∃ r v,rs[i]? = some r/\aB1 σ1 r=some a/\vs[i]? = some v/\jK Γ H1 σ1 σV r v:=fun i a ea=>by
  have hi:i < rs.length:=by rw[← la];exact(List.getElem?_eq_some_iff.mp ea).1
  have er:rs[i]? = some rs[i]:=List.getElem?_eq_getElem hi
  obtain⟨a',h1,h2⟩:=ga i _ er
  rw[ea]at h1;cases h1
  obtain⟨v,h3,h4⟩:=gv i _ er
  exact⟨_,v,er,h2,h3,h4⟩
 have slotArg:∀ i a,aB1 σ1 (.slot i)=some a->∃ s,σ1[i]? = some (some s)/\a=⟨if s.m.mt=true then .par else s.m,s.d⟩:=fun i a ea=>by
  have ea':(match σ1[i]? with | some (some s)=>some (⟨if s.m.mt=true then .par else s.m,s.d⟩:Sl) | _=>none)=some a:=ea
  split at ea'
  ·rename_i s hs;cases ea';exact⟨s,hs,rfl⟩
  ·cases ea'
 -- an argument that may change: new,or owned here
 have mutArg:∀ a,aX2 as vs a->oC σ1 σV a\/(H a=none/\¬ bO0 σ1 σV a/\Γ.H₀ a=none):=fun a ⟨i,s,ei,m,ev⟩=>by
  obtain⟨r,v,er,ea,ev',rv⟩:=arg i s ei
  rw[ev]at ev';cases ev'
  cases r with
  | val d=>cases ea;cases m
  | own d=>
    obtain⟨p,q1,q2,q3,q4⟩:=rv
    cases q1
    exact .inr ⟨f1 i d a er ev,q3,q4⟩
  | slot j=>
    obtain⟨s',hs,rfl⟩:=slotArg j s ea
    obtain⟨q1,_⟩:=rv
    refine .inl ⟨j,s',hs,?_,q1⟩
    by_cases hm:s'.m.mt=true
    ·exact hm
    ·simp only[hm]at m;exact absurd m hm
 have argok:ArgOk H1 as vs:=by
  refine⟨by rw[la,lv],fun i a ei=>?_,fun i j s t p nij ei ej m m' ev ev'=>?_,fun i a ei=>?_⟩
  ·obtain⟨r,v,er,ea,ev,rv⟩:=arg i a ei
   refine⟨v,ev,?_⟩
   cases r with
   | val d=>cases ea;exact rv
   | own d=>cases ea;obtain⟨p,q1,q2,_⟩:=rv;exact⟨p,q1,q2⟩
   | slot j=>
     obtain⟨s',hs,rfl⟩:=slotArg j a ea
     obtain⟨q1,_⟩:=rv
     obtain⟨v',e4,r4⟩:=ok1.rel j s' hs
     rw[q1]at e4;cases e4
     by_cases hm:s'.m.mt=true
     ·simp only[hm,if_true]
      exact(cZ (s:=⟨.par,s'.d⟩) (fun z=>nomatch z)).mpr ((cZ (hZ hm)).mp r4)
     ·simp only[hm];exact r4
  ·obtain⟨r,v,er,ea,ev1,rv⟩:=arg i s ei
   obtain⟨r2,v2,er2,ea2,ev2,rv2⟩:=arg j t ej
   rw[ev]at ev1;cases ev1
   rw[ev']at ev2;cases ev2
   have nvSlot:∀ l a,aB1 σ1 (.slot l)=some a->a.m≠.val->∃ s,σ1[l]? = some (some s)/\s.m≠.val/\(a.m.mt=true->s.m.mt=true):=fun l a ea hm=>by
    obtain⟨s',hs,rfl⟩:=slotArg l a ea
    refine⟨s',hs,?_,?_⟩
    ·intro z;simp only[z,Md.mt]at hm;exact hm rfl
    ·intro z
     by_cases hm':s'.m.mt=true
     ·exact hm'
     ·simp only[hm']at z;exact z
   cases r with
   | val d=>cases ea;cases m
   | own d=>
     obtain⟨q,q1,q2,q3,q4⟩:=rv
     cases q1
     cases r2 with
     | val d=>cases ea2;exact m' rfl
     | own d2=>
       rcases Nat.lt_or_gt_of_ne nij with z | z
       ·exact r1.dis i j d d2 p z er er2 ev ev'
       ·exact r1.dis j i d2 d p z er2 er ev' ev
     | slot l=>
       obtain⟨s',hs,hm',_⟩:=nvSlot l t ea2 m'
       exact q3 ⟨l,s',hs,hm',rv2.1⟩
   | slot l=>
     obtain⟨s',hs,hm',hmt⟩:=nvSlot l s ea (hZ m)
     cases r2 with
     | val d=>cases ea2;exact m' rfl
     | own d2=>
       obtain⟨q,q1,q2,q3,q4⟩:=rv2
       cases q1
       exact q3 ⟨l,s',hs,hm',rv.1⟩
     | slot l2=>
       obtain⟨s2,hs2,hm2,_⟩:=nvSlot l2 t ea2 m'
       refine ok1.dis l l2 s' s2 p (fun z=>?_) hs hs2 (hmt m) hm2 rv.1 rv2.1
       subst z
       exact nij (oE hc i j l er er2)
  ·obtain⟨r,v,er,ea,ev1,rv⟩:=arg i a ei
   cases r with
   | val d=>cases ea;exact fun z=>nomatch z
   | own d=>cases ea;exact fun z=>nomatch z
   | slot j=>
     obtain⟨s',hs,rfl⟩:=slotArg j a ea
     intro z
     by_cases hm:s'.m.mt=true
     ·simp only[hm,if_true]at z;cases z
     ·simp only[hm]at z
      have z':s'.m=.own:=z
      rw[z']at hm;exact hm rfl
 refine⟨argok,fun r as' v H2 po nw=>?_⟩
 have extA:Ext H1 H2:=by
  refine⟨fun p xs h=>po.fr p _ h fun z=>?_,fun p o u h=>po.fr p _ h fun z=>?_⟩
  ·obtain⟨i,s,ei,m,ev⟩:=z
   obtain⟨v,e4,r4⟩:=argok.rel i s ei
   rw[ev]at e4;cases e4
   obtain⟨q,eq,ow⟩:=(cZ (hZ m)).mp r4
   cases eq
   obtain⟨o,ho,n1,_⟩:=ow.obj
   rw[h]at ho;cases ho;exact n1 _ rfl
  ·obtain⟨i,s,ei,m,ev⟩:=z
   obtain⟨v,e4,r4⟩:=argok.rel i s ei
   rw[ev]at e4;cases e4
   obtain⟨q,eq,ow⟩:=(cZ (hZ m)).mp r4
   cases eq
   obtain⟨o',ho,_,n1⟩:=ow.obj
   rw[h]at ho;cases ho;exact n1 _ _ rfl
 have back:∀ (j:Nat) t,(iY rs as' 0 σ1)[j]? = some (some t)->∃ s,σ1[j]? = some (some s)/\t.m=s.m/\(t=s\/(s.m.mt=true/\∃ (k:Nat) (a:Sl),rs[k]? = some (.slot j)/\as'[k]? = some a/\t=⟨s.m,a.d⟩)):=fun j t ej=>by
  rw[kB,Nat.zero_add]at ej
  cases q:σ1[j]? with
  | none=>rw[q]at ej;cases ej
  | some o=>
    rw[q]at ej
    cases o with
    | none=>cases ej
    | some s=>
      have ej':nD rs as' j (some s)=some t:=Option.some.inj ej
      unfold nD at ej'
      refine⟨s,rfl,?_⟩
      dsimp only at ej'
      split at ej'
      ·rename_i a ha
       obtain⟨k',h1,h2⟩:=fT ha
       have ej'':=Option.some.inj ej'
       by_cases hm:s.m.mt=true
       ·rw[if_pos hm]at ej''
        subst ej''
        exact⟨rfl,.inr ⟨hm,k',a,h1,h2,rfl⟩⟩
       ·rw[if_neg hm]at ej''
        subst ej''
        exact⟨rfl,.inl rfl⟩
      ·cases ej';exact⟨rfl,.inl rfl⟩
 have fwd:∀ (j:Nat) s,σ1[j]? = some (some s)->∃ t,(iY rs as' 0 σ1)[j]? = some (some t)/\t.m=s.m/\(s.m.mt=false->t=s):=fun j s ej=>by
  rw[kB,Nat.zero_add,ej]
  show ∃ t,some (nD rs as' j (some s))=some (some t)/\_
  unfold nD
  dsimp only
  split
  ·refine⟨_,rfl,?_,fun z=>?_⟩
   ·split<;>rfl
   ·rw[if_neg (by rw[z];exact Bool.false_ne_true)]
  ·exact⟨s,rfl,rfl,fun _=>rfl⟩
 -- a slot that is handed in by no argument that may change
 have quiet:∀ (j:Nat) s t p,σ1[j]? = some (some s)->(iY rs as' 0 σ1)[j]? = some (some t)->t=s->s.m≠.val->σV[j]? = some (some (.ref p))->(∀ k:Nat,s.m.mt=true->rs[k]? ≠ some (.slot j))->¬ aX2 as vs p:=by
  intro j s t p hs _ _ hm ev hno ⟨i,a,ei,m,evi⟩
  obtain⟨r,v,er,ea,ev1,rv⟩:=arg i a ei
  rw[evi]at ev1;cases ev1
  cases r with
  | val d=>cases ea;cases m
  | own d=>
    obtain⟨q,q1,q2,q3,q4⟩:=rv
    cases q1
    exact q3 ⟨j,s,hs,hm,ev⟩
  | slot l=>
    obtain⟨s',hs',rfl⟩:=slotArg l a ea
    have hmt:s'.m.mt=true:=by
     by_cases h':s'.m.mt=true
     ·exact h'
     ·simp only[h']at m;exact absurd m h'
    by_cases z:l=j
    ·subst z
     rw[hs]at hs';cases hs'
     exact hno i hmt er
    ·exact ok1.dis l j s' s p z hs' hs hmt hm rv.1 ev
 have okB:StOk Γ H2 (iY rs as' 0 σ1) σV:=by
  refine⟨fun j t ej=>?_,fun j l t t' q n ej el m m' eq eq'=>?_,fun j t q ej m eq=>?_,fun j t q ej m eq=>?_,fun a o e n=>?_,fun a e=>ok1.dom a (po.dom a e),by rw[oX];exact ok1.len⟩
  ·obtain⟨s,hs,mm,hc'⟩:=back j t ej
   obtain⟨w',ew,rw'⟩:=ok1.rel j s hs
   refine⟨w',ew,?_⟩
   by_cases hslot:s.m.mt=true/\∃ k':Nat,rs[k']? = some (.slot j)
   ·obtain⟨hm,k',hk'⟩:=hslot
    obtain⟨a,ha,hao⟩:=ga k' _ hk'
    obtain⟨v',hv',rv'⟩:=gv k' _ hk'
    have ev':σV[j]? = some (some v'):=rv'.1
    rw[ew]at ev';cases ev'
    obtain⟨s',hs',ea'⟩:=slotArg j a hao
    rw[hs]at hs';cases hs'
    have am:a.m=.par:=by rw[ea',if_pos hm]
    obtain⟨a2,w2,h1,h2,h3,h4⟩:=po.rel k' a ha (by rw[am];rfl)
    rw[hv']at h3;cases h3
    have ht:t=⟨s.m,a2.d⟩:=by
     rw[kB,Nat.zero_add,hs]at ej
     have ej':nD rs as' j (some s)=some t:=Option.some.inj ej
     unfold nD at ej'
     dsimp only at ej'
     split at ej'
     ·rename_i b hb
      obtain⟨k2,q1,q2⟩:=fT hb
      obtain rfl:=oE hc k2 k' j q1 hk'
      rw[h1]at q2;cases q2
      have:=Option.some.inj ej'
      rw[if_pos hm]at this
      exact this.symm
     ·rename_i hb
      -- no argument at all: the lists part in length
      exfalso
      have:∀ {rs:List Res} {as:List Sl} {kk:Nat} {a:Sl},rs[kk]? = some (.slot j)->as[kk]? = some a->kA j rs as≠none:=by
       intro rs
       induction rs with
       | nil=>intro as kk a h;simp at h
       | cons r rs ih=>
         intro as kk a h h'
         cases as with
         | nil=>simp at h'
         | cons b as=>
           cases kk with
           | zero=>simp at h;subst h;simp[kA]
           | succ kk=>
             have:=ih (as:=as) (kk:=kk) (a:=a) (by simpa using h) (by simpa using h')
             cases r with
             | slot i=>simp only[kA];split;exact fun z=>nomatch z;exact this
             | val d=>exact this
             | own d=>exact this
      exact this hk' h1 hb
    subst ht
    have h5:=(cZ (s:=a2) (by rw[h2,am];exact fun z=>nomatch z)).mp h4
    exact(cZ (s:=⟨s.m,a2.d⟩) (hZ hm)).mpr h5
   ·have ht:t=s:=by
     rcases hc' with h | ⟨hm,k',a,h1,_⟩
     ·exact h
     ·exact absurd ⟨hm,k',h1⟩ hslot
    rw[ht]
    refine rw'.mono extA fun p o ep m hp=>po.fr p o hp ?_
    exact quiet j s t p hs ej ht m (by rw[ew,ep]) fun k' hm hk=>hslot ⟨hm,k',hk⟩
  ·obtain⟨s,hs,mm,_⟩:=back j t ej
   obtain⟨s',hs',mm',_⟩:=back l t' el
   exact ok1.dis j l s s' q n hs hs' (by rw[← mm];exact m) (by rw[← mm'];exact m') eq eq'
  ·obtain⟨s,hs,mm,_⟩:=back j t ej
   exact ok1.own j s q hs (mm.symm.trans m) eq
  ·obtain⟨s,hs,mm,_⟩:=back j t ej
   exact ok1.par j s q hs (mm.symm.trans m) eq
  ·refine po.fr a o (ok1.keep a o e n) fun z=>?_
   rcases mutArg a z with⟨j,s,hs,m,ev⟩ | ⟨_,_,z0⟩
   ·cases hq:s.m with
    | own=>rw[ok1.own j s a hs hq ev]at e;cases e
    | par=>exact n (ok1.par j s a hs hq ev)
    | val=>rw[hq]at m;cases m
    | lent=>rw[hq]at m;cases m
   ·rw[z0]at e;cases e
 have stB:Step σ σV H (iY rs as' 0 σ1) σV H2:=by
  refine⟨fun a o e n=>?_,fun a e=>st1.dom a (po.dom a e),fun a ⟨j,t,ej,m,ea⟩=>?_,fun a ⟨j,t,ej,m,ea⟩=>?_,fun j t ej=>?_,fun j t ej m=>?_,fun j t ej m=>?_⟩
  ·refine po.fr a o (st1.fr a o e n) fun z=>?_
   rcases mutArg a z with y | ⟨y,_⟩
   ·rcases st1.mu a y with y | y
    ·exact n y
    ·rw[e]at y;cases y
   ·rw[e]at y;cases y
  ·obtain⟨s,hs,mm,_⟩:=back j t ej
   exact st1.mu a ⟨j,s,hs,by rw[← mm];exact m,ea⟩
  ·obtain⟨s,hs,mm,_⟩:=back j t ej
   exact st1.nv a ⟨j,s,hs,by rw[← mm];exact m,ea⟩
  ·obtain⟨s,hs⟩:=st1.kp j t ej
   obtain⟨t',h1,_⟩:=fwd j s hs
   exact⟨t',h1⟩
  ·obtain⟨s,hs,q1,q2,q3⟩:=st1.fix j t ej m
   obtain⟨t',h1,h2,h3⟩:=fwd j s hs
   refine⟨t',h1,h2.trans q1,fun z=>?_,q3⟩
   rw[h3 (by rw[q1,z];rfl)];exact q2 z
  ·obtain⟨s,hs,mm,_⟩:=back j t ej
   exact st1.lt j s hs (mm.symm.trans m)
 refine⟨okB,?_,stB,nw.frh.back st1⟩
 cases r with
 | val d=>exact nw
 | own d=>
   obtain⟨p,q1,q2,q3⟩:=nw
   refine⟨p,q1,q3,fun⟨j,t,ej,m,ea⟩=>?_,ok1.dom p q2⟩
   obtain⟨s,hs,mm,_⟩:=back j t ej
   obtain⟨o,ho,_⟩:=ok1.mutObj ⟨j,s,hs,by rw[← mm];exact m,ea⟩
   rw[q2]at ho;cases ho
 | slot i=>exact nw.elim
theorem aX5{Γ:Gm}{n:Nat}{run:Run}{ra:DA}{E:XK}{σV:St}{H:Hp}{Q:VK}(h:dTE Γ (bL n run ra) σV H Q):aM6 (dsp n run) [] E (dTA Γ ra) σV H Q:=by
 obtain⟨σ,ok,res,σ',e,k⟩:=h
 obtain⟨⟨rs,σ1⟩,e1,e⟩:=bind_some e
 obtain⟨as,e2,e⟩:=bind_some e
 dsimp only at e
 split at e
 case isFalse=>cases e
 case isTrue hc=>
 obtain⟨⟨r,as'⟩,e3,e⟩:=bind_some e
 cases e
 dsimp only at e2 hc k
 refine⟨σ,ok,rs,σ1,e1,fun vs H1 ok1 r1 st1 f1=>?_⟩
 show dsp n run (vs++[]) H1 Q E
 rw[List.append_nil]
 obtain⟨ao,c⟩:=yL e2 hc.2 ok1 r1 st1 f1
 refine⟨as,r,as',ao,hc.1,e3,fun v H2 po nw=>?_⟩
 obtain⟨q1,q2,q3,q4⟩:=c r as' v H2 po nw
 exact k v H2 q1 q2 q3 q4
theorem bB{X:Cx}{e:Expr}{n:Nat}{run:Run}{ra:DA}{E:XK}(h:∀ Γ,PE X e (aM6 (dsp n run) [] E (dTA Γ ra))):GE X e (bL n run ra):=.mk fun Γ=>peW (h Γ) fun _ _ _=>aX5
end Dv
namespace Dv
open PySem L2
section
variable{X:Cx}
def sQ(i j:Int):Prop:=bP0 i j\/(PySem.Builtin.Int.intBits i<=2 ^ 20/\PySem.Builtin.Int.intBits j<=2 ^ 20)
theorem sQ.ok{i j:Int}(h:sQ i j):IntMulOk i j:=by
 rcases h with h | h
 ·exact h.ok
 ·exact IntMulOk.of_bits h.1 h.2
theorem cK0:OpR X (binaryOp .Mult) (rI sQ fun i j=>.int (i*j)):=opI fun _ _ _ _ _ _ _ hc q=>PyProof.Rows.mul_int q hc.ok
end
noncomputable section
open Classical
def ii(f:Int->Int->D):F2:=fun d e=>match d,e with
 | .int i,.int j=>some (.val (f i j))
 | _,_=>none
def iiC(C:Int->Int->Prop)(f:Int->Int->D):F2:=fun d e=>match d,e with
 | .int i,.int j=>if C i j then some (.val (f i j))else none
 | _,_=>none
def iu(f:Int->D):F1:=fun d=>match d with
 | .int i=>some (.val (f i))
 | _=>none
end
theorem aX6{g:Int->Int->V}{f:Int->Int->D}(h:∀ H i j,Rp H (f i j) (g i j)):pJ (rI0 g) (ii f):=by
 intro H d1 d2 x y Q res v1 v2 e k
 unfold ii at e
 split at e
 ·cases e
  obtain rfl:=dB v1
  obtain rfl:=dB v2
  exact⟨_,_,rfl,rfl,k _ H (.refl _) (h H _ _)⟩
 ·cases e
theorem aB2{C:Int->Int->Prop}{g:Int->Int->V}{f:Int->Int->D}(h:∀ H i j,Rp H (f i j) (g i j)):pJ (rI C g) (iiC C f):=by
 intro H d1 d2 x y Q res v1 v2 e k
 unfold iiC at e
 split at e
 ·split at e
  ·rename_i hc
   cases e
   obtain rfl:=dB v1
   obtain rfl:=dB v2
   exact⟨_,_,rfl,rfl,hc,k _ H (.refl _) (h H _ _)⟩
  ·cases e
 ·cases e
theorem cX2{g:Int->V}{f:Int->D}(h:∀ H i,Rp H (f i) (g i)):cP7 (rU g) (iu f):=by
 intro H d x Q res v1 e k
 unfold iu at e
 split at e
 ·cases e
  obtain rfl:=dB v1
  exact⟨_,rfl,k _ H (.refl _) (h H _)⟩
 ·cases e
def dN0:F2:=ii fun i j=>.int (i-j)
noncomputable def aQ9:F2:=iiC (fun _ j=>0 < j) fun i j=>.int (i % j)
noncomputable def dH0:F2:=iiC cP4 fun i j=>.int (i ^ j.toNat)
def ltI:F2:=ii fun i j=>.bl (decide (i < j))
def leI:F2:=ii fun i j=>.bl (decide (i<=j))
def gtI:F2:=ii fun i j=>.bl (decide (j < i))
def geI:F2:=ii fun i j=>.bl (decide (j<=i))
def dD1:F1:=iu fun i=>.int (-i)
theorem gW:pJ (rI (fun _ j=>0 < j) fun i j=>.int (i % j)) aQ9:=aB2 fun _ _ _=>.int _
theorem cK1:pJ (rI cP4 fun i j=>.int (i ^ j.toNat)) dH0:=aB2 fun _ _ _=>.int _
theorem rL:pJ (rI0 fun i j=>.bl (decide (i<=j))) leI:=aX6 fun _ _ _=>.bl _
theorem kD:pJ (rI0 fun i j=>.bl (decide (j < i))) gtI:=aX6 fun _ _ _=>.bl _
theorem cK2:pJ (rI0 fun i j=>.bl (decide (j<=i))) geI:=aX6 fun _ _ _=>.bl _
theorem aX7:cP7 (rU fun i=>.int (-i)) dD1:=cX2 fun _ _=>.int _
section
variable{X:Cx}{pins:List (Addr×Obj)}{σ:St}{H:Hp}{s:Shared}{l:Addr}{xs:List V}
theorem wH(I:Inv X pins σ H s)(h:eP H l=some (true,xs)):xs.length<=sizeLine/\∃ (its:List Value) (n:Nat),cF xs its/\xs.length=its.length/\s.heap.get? l=some {cls:=.type "list",data:=.seq its.toArray n}:=by
 unfold eP at h
 split at h
 ·rename_i e
  cases h
  exact I.lstM e
 ·cases h
 ·rename_i o ys e
  cases h
  obtain⟨_,z,its,n,r,e⟩:=I.hok l _ e
  exact⟨z,its,n,r,r.length,e⟩
 ·cases h
end
def cX3:R2:=fun x y H Q=>∃ l b xs zs,x=.ref l/\y=.ref b/\eP H l=some (true,xs)/\eP H b=some (true,zs)/\xs.length+zs.length<=sizeLine/\∀ p,H p=none->Q (.ref p) (upd H p (.lst (xs++zs)))
theorem cK3{X:Cx}:OpR X (binaryOp .Add) cX3:=by
 intro pins s σ H x y v u Q I rx ry h
 obtain⟨l,b,xs,zs,rfl,rfl,hH,hB,hz,q⟩:=h
 cases rx
 cases ry
 obtain⟨z,its,n,r,hl,e⟩:=wH I hH
 obtain⟨z2,its2,n2,r2,hl2,e2⟩:=wH I hB
 refine PySem.P.add_list e e2 ?_ (by rw[List.size_toArray,List.size_toArray];omega)
 have ea:its.toArray++its2.toArray=(its++its2).toArray:=by simp
 rw[ea]
 exact⟨.ref _,_,I.lnew (t':=s.toks) (r.append r2) (by rw[List.length_append];omega),rfl,q _ I.fresh⟩
def cX4:R2:=fun x y H Q=>bS4 x y H Q\/cX3 x y H Q
theorem aY{X:Cx}:OpR X (binaryOp .Add) cX4:=gZ.or cK3
def dQ:F2:=fun d e=>match d,e with
 | .int i,.int j=>some (.val (.int (i+j)))
 | .str a,.str b=>if a.length+b.length<=sizeLine then some (.val (.str (a++b)))else none
 | .lst l,.lst m=>if l.length+m.length<=sizeLine then some (.own (.lst (l++m)))else none
 | .tup l,.tup m=>if l.length+m.length<=sizeLine then some (.val (.tup (l++m)))else none
 | _,_=>none
theorem aX8{H:Hp}{p:Addr}{xs:List V}{l:List D}(hp:H p=none)(r:Rps H l xs):yF H (upd H p (.lst xs)) (.own (.lst l)) (.ref p):=⟨p,rfl,hp,xs,aG,r.mono (.same (bR hp))⟩
theorem aB3{H:Hp}{p:Addr}{xs:List V}{l:List D}(hp:H p=none)(r:Rps H l xs):yF H (upd H p (.tup xs)) (.val (.tup l)) (.ref p):=.tup aG (r.mono (.same (bR hp)))
theorem aZ:pJ cX4 dQ:=by
 intro H d1 d2 x y Q res v1 v2 e k
 unfold dQ at e
 split at e
 ·cases e
  obtain rfl:=dB v1
  obtain rfl:=dB v2
  exact .inl (k _ H (.refl _) (.int _))
 ·split at e
  ·rename_i hl
   cases e
   obtain rfl:=lB v1
   obtain rfl:=lB v2
   exact .inl ⟨hl,k _ H (.refl _) (.str _)⟩
  ·cases e
 ·split at e
  ·rename_i l m hl
   cases e
   obtain⟨p,xs,rfl,h1,r1⟩:=jE v1
   obtain⟨q,ys,rfl,h2,r2⟩:=jE v2
   have:=r1.length
   have:=r2.length
   exact .inr ⟨p,q,xs,ys,rfl,rfl,h1,h2,by omega,fun r hr=>k _ _ (bR hr) (aX8 hr (r1.append r2))⟩
  ·cases e
 ·split at e
  ·rename_i l m hl
   cases e
   obtain⟨p,xs,rfl,h1,r1⟩:=fY v1
   obtain⟨q,ys,rfl,h2,r2⟩:=fY v2
   have e1:=r1.length
   have e2:=r2.length
   refine .inl (.inr ⟨xs,ys,cJ h1,cJ h2,by omega,fun hx=>?_,fun hx hy=>?_,fun hx hy r hr=>k _ _ (bR hr) (aB3 hr (r1.append r2))⟩)
   ·subst hx
    have:l=[]:=List.eq_nil_of_length_eq_zero e1
    subst this
    exact k _ H (.refl _) (.tup h2 r2)
   ·subst hy
    have:m=[]:=List.eq_nil_of_length_eq_zero e2
    subst this
    rw[List.append_nil]at k
    exact k _ H (.refl _) (.tup h1 r1)
  ·cases e
 ·cases e
noncomputable section
open Classical
def aB4:F2:=fun d e=>match d,e with
 | .int i,.int j=>if sQ i j then some (.val (.int (i*j)))else none
 | .str z,.int i=>if z.length<=1000/\0<=i/\i<=1000 then some (.val (.str (PySem.Txt.mul z i)))else none
 | _,_=>none
end
def cX5:R2:=fun x y H Q=>rI sQ (fun i j=>.int (i*j)) x y H Q\/bS1 x y H Q
theorem gX{X:Cx}:OpR X (binaryOp .Mult) cX5:=cK0.or aI6
theorem gY:pJ cX5 aB4:=by
 intro H d1 d2 x y Q res v1 v2 e k
 unfold aB4 at e
 split at e
 ·split at e
  ·rename_i hc
   cases e
   obtain rfl:=dB v1
   obtain rfl:=dB v2
   exact .inl ⟨_,_,rfl,rfl,hc,k _ H (.refl _) (.int _)⟩
  ·cases e
 ·split at e
  ·rename_i hc
   cases e
   obtain rfl:=lB v1
   obtain rfl:=dB v2
   exact .inr ⟨hc.1,hc.2.1,hc.2.2,fun y _ e=>by subst e;exact k _ H (.refl _) (.str _)⟩
  ·cases e
 ·cases e
def ixD:F2:=fun d e=>match d,e with
 | .lst l,.int i=>(atI l i).map .val
 | .tup l,.int i=>(atI l i).map .val
 | .str z,.int i=>if z.length<=sizeLine then(atI z.cps.toList i).map fun c=>.val (.str ⟨#[c]⟩)else none
 | _,_=>none
theorem Rps.atI{H:Hp}{l:List D}{xs:List V}{i:Int}{d:D}(r:Rps H l xs)(h:L2.atI l i=some d):∃ x,L2.atI xs i=some x/\Rp H d x:=by
 unfold L2.atI at h ⊢
 obtain⟨j,e1,e2⟩:=bind_some h
 rw[← r.length,e1]
 exact r.get e2
theorem cX6:pJ dF4 ixD:=by
 intro H d1 d2 x y Q res v1 v2 e k
 unfold ixD at e
 split at e
 ·obtain rfl:=dB v2
  obtain⟨p,xs,rfl,h1,r1⟩:=jE v1
  obtain⟨d,e1,e2⟩:=Option.map_eq_some_iff.mp e
  cases e2
  obtain⟨x,e3,r⟩:=r1.atI e1
  exact⟨x,eJ h1 e3,k _ H (.refl _) r⟩
 ·obtain rfl:=dB v2
  obtain⟨p,xs,rfl,h1,r1⟩:=fY v1
  obtain⟨d,e1,e2⟩:=Option.map_eq_some_iff.mp e
  cases e2
  obtain⟨x,e3,r⟩:=r1.atI e1
  exact⟨x,eJ (cJ h1) e3,k _ H (.refl _) r⟩
 ·split at e
  ·rename_i hz
   obtain rfl:=dB v2
   obtain rfl:=lB v1
   obtain⟨c,e1,e2⟩:=Option.map_eq_some_iff.mp e
   cases e2
   exact⟨_,cH1 hz e1,k _ H (.refl _) (.str _)⟩
  ·cases e
 ·cases e
theorem gC{X:Cx}{a b:Expr}{ra rb:DE}{pos:Pos}(ha:GE X a ra)(hb:GE X b rb)(hs:aT2 b):GE X (.Subscript a b pos) (bA ixD ra rb):=.mk fun Γ=>peW (jJ xD (ha.to Γ) (hb.to Γ) hs) fun _ _ _=>qI cX6
def jL:FN:=fun ds=>match ds with
 | [.lst l]=>some (.val (.int l.length))
 | [.tup l]=>some (.val (.int l.length))
 | [.str z]=>if z.length<=sizeLine then some (.val (.int z.length))else none
 | _=>none
theorem bO4{H:Hp}{d:D}{vs:List V}(h:Vws H [d] vs):∃ x,vs=[x]/\Vw H d x:=by
 cases h with
 | cons a t=>cases t;exact⟨_,rfl,a⟩
theorem dN1{H:Hp}{d e:D}{vs:List V}(h:Vws H [d,e] vs):∃ x y,vs=[x,y]/\Vw H d x/\Vw H e y:=by
 cases h with
 | cons a t=>
   obtain⟨y,rfl,b⟩:=bO4 t
   exact⟨_,_,rfl,a,b⟩
theorem bO:cJ3 bR0 jL:=by
 intro H ds vs Q res vw e k
 unfold jL at e
 split at e
 ·cases e
  obtain⟨x,rfl,v⟩:=bO4 vw
  obtain⟨p,xs,rfl,h1,r1⟩:=jE v
  refine⟨_,_,rfl,vB h1,?_⟩
  rw[← r1.length]
  exact k _ H (.refl _) (.int _)
 ·cases e
  obtain⟨x,rfl,v⟩:=bO4 vw
  obtain⟨p,xs,rfl,h1,r1⟩:=fY v
  refine⟨_,_,rfl,vB (cJ h1),?_⟩
  rw[← r1.length]
  exact k _ H (.refl _) (.int _)
 ·split at e
  ·rename_i hz
   cases e
   obtain⟨x,rfl,v⟩:=bO4 vw
   obtain rfl:=lB v
   exact⟨_,_,rfl,bR3 hz,k _ H (.refl _) (.int _)⟩
  ·cases e
 ·cases e
def pN(l:List D)(lo hi:Option Int):List D:=(l.drop (HT.sIx l.length 0 lo)).take (HT.sIx l.length l.length hi-HT.sIx l.length 0 lo)
theorem Rps.cut{H:Hp}{l:List D}{xs:List V}(r:Rps H l xs)(lo hi:Option Int):Rps H (pN l lo hi) (pU xs lo hi):=by
 unfold pN pU
 rw[r.length]
 exact(r.drop _).take _
theorem aX9{xs:List V}{lo hi:Option Int}(h:HT.sIx xs.length 0 lo=0/\HT.sIx xs.length xs.length hi=xs.length):pU xs lo hi=xs:=by
 unfold pU
 rw[h.1,h.2]
 simp
end Dv
namespace HT
open PySem PySem.Spec PyProof.Rows
section
variable{prog:Program}{w:World}{A:Around}{E:Value->Shared->Prop}{s:Shared}
theorem getItem_tuple_all{t sl:Addr}{items:Array Value}{vl vu:Value}{lo hi:Option Int}{Q:Value->Shared->Prop}(ht:IsTup s.heap t items)(hs:s.heap.IsSliceOf sl vl vu .none)(pl:IsPart vl lo)(pu:IsPart vu hi)
  (hw:sIx items.size 0 lo=0/\sIx items.size items.size hi=items.size) (h:Q (.ref t) s):wpAny (model prog w) A (getItem (.ref t) (.ref sl)) Q E s:=by
 obtain⟨os,hos,hcs,hds⟩:=id hs
 have hTs:s.TypeIs (.ref sl) "slice":=⟨os,hos,hcs⟩
 unfold getItem
 try with_reducible refine wpAny_holding ?_
 first | refine wpAny_bind (wpAny_pure ?_) | skip
 refine wpAny_bind (wpAny_sequenceKey ht.typeIs (by decide) ?_)
 refine wpAny_bind (wpAny_callSpecial?_slot (name:=Str.ofString "__getitem__") ht.typeIs PyProof.Rows.slot_tuple_getitem
  (wpAny_call_entry PyProof.Rows.slot_tuple_getitem ht.typeIs entry_tuple_getitem ?_ (args_tuple_getitem _ _)))
 show wpAny _ _ (Builtin.Tuple.tupleItemsOf (.ref t) >>= _) _ _ s
 refine wpAny_bind (tupleItemsOf_ ht ?_)
 refine wpAny_bind (wpAny_typeOf hTs ?_)
 rw[if_pos (by decide)]
 refine wpAny_bind (jC hs pl pu ?_)
 have hyes:(((sIx items.size 0 lo:Nat):Int)==0&&(1:Int)==1&&(sIx items.size items.size hi-sIx items.size 0 lo)==items.size)=true:=by
  rw[hw.1,hw.2];simp
 show wpAny _ _ (if(((sIx items.size 0 lo:Nat):Int)==0&&(1:Int)==1&&(sIx items.size items.size hi-sIx items.size 0 lo)==items.size)=true then _ else _) _ _ s
 rw[if_pos hyes]
 refine wpAny_bind ?_
 unfold Builtin.Tuple.tupleIsExact
 refine wpAny_bind (wpAny_typeOf ht.typeIs (wpAny_pure ?_))
 rw[if_pos (by decide)]
 refine wpAny_bind (wpAny_rule ?_)
 exact wpAny_pure ⟨_,rfl,wpAny_pure h⟩
end
end HT
namespace Dv
open PySem L2
def dK3:V->Option Int->Option Int->Hp->VK->Prop:=fun x lo hi H Q=>match x with
 | .str z=>z.length<=sizeLine/\Q (.str (PySem.Txt.slice z lo hi)) H
 | .ref p=>(∃ xs,eP H p=some (true,xs)/\∀ r,H r=none->Q (.ref r) (upd H r (.lst (pU xs lo hi)))) \/
   ∃ xs,eP H p=some (false,xs)/\(pU xs lo hi=xs->Q (.ref p) H)/\∀ r,H r=none->Q (.ref r) (upd H r (.tup (pU xs lo hi)))
 | _=>False
theorem dN2{X:Cx}:SlR X dK3:=by
 intro pins s σ H x v vl vu lo hi sl Q I rx hs pl pu h
 unfold dK3 at h
 split at h
 ·rename_i z
  exact cB3 pins s σ H _ v vl vu lo hi sl Q I rx hs pl pu h
 ·rename_i p
  rcases h with h | ⟨xs,hq,q1,q2⟩
  ·exact cB3 pins s σ H _ v vl vu lo hi sl Q I rx hs pl pu (.inl h)
  ·by_cases hw:HT.sIx xs.length 0 lo=0/\HT.sIx xs.length xs.length hi=xs.length
   ·cases rx
    obtain⟨its,r,ht,hz⟩:=I.tuple (dS hq)
    have hlen:its.toArray.size=xs.length:=by rw[List.size_toArray];exact r.length.symm
    refine⟨"tuple",_,PyProof.Rows.slot_tuple_getitem.lookup,ht.typeIs,?_⟩
    exact HT.getItem_tuple_all ht hs pl pu (by rw[hlen];exact hw) ⟨.ref p,H,I,rfl,q1 (aX9 hw)⟩
   ·exact cB3 pins s σ H _ v vl vu lo hi sl Q I rx hs pl pu (.inr ⟨xs,hq,hw,q2⟩)
 ·exact h.elim
abbrev DO:=Sg->Option (Option Int×Sg)
def dTO(Γ:Gm)(r:DO):TO:=fun σV H Q=>∃ σ,StOk Γ H σ σV/\∃ o σ',r σ=some (o,σ')/\∀ H',StOk Γ H' σ' σV->Step σ σV H σ' σV H'->Q o H'
structure GO(X:Cx)(e:Option Expr)(r:DO):Prop where
 to:∀ Γ,PO X e (dTO Γ r)
theorem poW{X:Cx}{e:Option Expr}{t t':TO}(h:PO X e t)(w:∀ σ H Q,t' σ H Q->t σ H Q):PO X e t':=fun pins s σ H Q I q=>h pins s σ H Q I (w σ H Q q)
def jM:DO:=fun σ=>some (none,σ)
def dP(r:DE):DO:=fun σ=>(r σ).bind fun x=>(rd x.2 x.1).bind fun d=>match d with
 | .int i=>some (some i,x.2)
 | _=>none
theorem cB{X:Cx}:GO X none jM:=.mk fun Γ=>poW nY fun σV H Q ⟨σ,ok,o,σ',e,k⟩=>by cases e;exact k H ok .refl
theorem cC{X:Cx}{e:Expr}{r:DE}(h:GE X e r):GO X (some e) (dP r):=.mk fun Γ=>poW (nZ (h.to Γ)) fun σV H Q ⟨σ,ok,o,σ',e,k⟩=>by
 obtain⟨⟨x,σ1⟩,e1,e⟩:=bind_some e
 obtain⟨d,e2,e⟩:=bind_some e
 dsimp only at e
 split at e
 ·cases e
  exact⟨σ,ok,x,_,e1,fun v H1 ok1 r1 st1 _=>⟨_,dB (r1.vw ok1 e2),k H1 ok1 st1⟩⟩
 ·cases e
def slD(d:D)(lo hi:Option Int):Option Res:=match d with
 | .str z=>if z.length<=sizeLine then some (.val (.str (PySem.Txt.slice z lo hi)))else none
 | .lst l=>some (.own (.lst (pN l lo hi)))
 | .tup l=>some (.val (.tup (pN l lo hi)))
 | _=>none
def dSl(r:DE)(a b:DO):DE:=fun σ=>(r σ).bind fun x=>(a x.2).bind fun y=>(b y.2).bind fun z=>(rd z.2 x.1).bind fun d=>(slD d y.1 z.1).bind fun w=>some (w,z.2)
theorem bK{X:Cx}{e:Expr}{lo hi:Option Expr}{p2 pos:Pos}{r:DE}{a b:DO}(he:GE X e r)(ha:GO X lo a)(hb:GO X hi b):GE X (.Subscript e (.Slice lo hi none p2) pos) (dSl r a b):=.mk fun Γ=>peW (kL dN2 (he.to Γ) (ha.to Γ) (hb.to Γ)) fun σV H Q ⟨σ,ok,res,σ',e,k⟩=>by
 obtain⟨⟨x,σ1⟩,e1,e⟩:=bind_some e
 obtain⟨⟨lo,σ2⟩,e2,e⟩:=bind_some e
 obtain⟨⟨hi,σ3⟩,e3,e⟩:=bind_some e
 obtain⟨d,e4,e⟩:=bind_some e
 obtain⟨w,e5,e⟩:=bind_some e
 cases e
 refine⟨σ,ok,x,σ1,e1,fun v H1 ok1 r1 st1 _=>⟨σ1,ok1,lo,σ2,e2,fun H2 ok2 st2=>⟨σ2,ok2,hi,σ3,e3,fun H3 ok3 st3=>?_⟩⟩⟩
 have vw:=((r1.step ok1 st2).step ok2 st3).vw ok3 e4
 have fin:∀ v H',lX H3 H'->yF H3 H' res v->Q v H':=fun v H' sm nw=>k v H' (ok3.same sm) (nw.res ok3) (((st1.trans st2).trans st3).trans (.same sm)) (nw.frh.back ((st1.trans st2).trans st3))
 dsimp only at e5
 unfold slD at e5
 split at e5
 ·split at e5
  ·rename_i hz
   cases e5
   obtain rfl:=lB vw
   exact⟨hz,fin _ H3 (.refl _) (.str _)⟩
  ·cases e5
 ·cases e5
  obtain⟨p,xs,rfl,h1,r2⟩:=jE vw
  exact .inl ⟨xs,h1,fun q hq=>fin _ _ (bR hq) (aX8 hq (r2.cut lo hi))⟩
 ·cases e5
  obtain⟨p,xs,rfl,h1,r2⟩:=fY vw
  refine .inr ⟨xs,cJ h1,fun hw=>fin _ H3 (.refl _) ?_,fun q hq=>fin _ _ (bR hq) (aB3 hq (r2.cut lo hi))⟩
  have:=r2.cut lo hi
  rw[hw]at this
  exact .tup h1 this
 ·cases e5
def cX7(K:PySem.W.Frag):List V->Hp->VK->Prop:=fun xs H Q=>∃ (a:Addr) (bs:List Bool),xs=[.ref a]/\SqL K H a (bs.map V.bl)/\Q (.bl (bs.all id)) H
def aO7:List D->Option (List Bool)
 | []=>some []
 | .bl b::r=>(aO7 r).bind fun bs=>some (b::bs)
 | _=>none
theorem aK3:∀ {l:List D} {bs:List Bool},aO7 l=some bs->l=bs.map D.bl
 | [],_,h=>by cases h;rfl
 | .bl b::r,_,h=>by
   obtain⟨bs,e1,e⟩:=bind_some h
   cases e
   rw[aK3 e1];rfl
 | .non::_,_,h=>by cases h
 | .int _::_,_,h=>by cases h
 | .str _::_,_,h=>by cases h
 | .tup _::_,_,h=>by cases h
 | .lst _::_,_,h=>by cases h
 | .dic _ _::_,_,h=>by cases h
theorem aY0(bs:List Bool):aO7 (bs.map D.bl)=some bs:=by
 induction bs with
 | nil=>rfl
 | cons b r ih=>show(aO7 (r.map D.bl)).bind _=_;rw[ih];rfl
def cP9:FN:=fun ds=>match ds with
 | [.lst l]=>(aO7 l).map fun bs=>.val (.bl (bs.all id))
 | _=>none
theorem aB5{K:PySem.W.Frag}:cJ3 (cX7 K) cP9:=by
 intro H ds vs Q res vw e k
 unfold cP9 at e
 split at e
 ·obtain⟨bs,e1,e2⟩:=Option.map_eq_some_iff.mp e
  cases e2
  obtain⟨x,rfl,v⟩:=bO4 vw
  obtain⟨p,xs,rfl,h1,r1⟩:=jE v
  rw[aK3 e1]at r1
  rw[r1.bls_inv]at h1
  exact⟨p,bs,rfl,eY h1,k _ H (.refl _) (.bl _)⟩
 ·cases e
theorem rM{X:Cx}(K:PySem.W.Frag)(hK:X.K=K)(hc:X.calm=true):kW X (.builtin "all") (cX7 K):=by rw[← hK];exact bQ0 hc
def dH1:FN:=fun ds=>match ds with
 | [.int i,.int j]=>some (.val (.int (if j > i then j else i)))
 | _=>none
def bV0:FN:=fun ds=>match ds with
 | [.int i,.int j]=>some (.val (.int (if j < i then j else i)))
 | _=>none
theorem bV1:cJ3 (fun xs H Q=>∃ i j,xs=[.int i,.int j]/\Q (.int (if j < i then j else i)) H) bV0:=by
 intro H ds vs Q res vw e k
 unfold bV0 at e
 split at e
 ·cases e
  obtain⟨x,y,rfl,a,b⟩:=dN1 vw
  obtain rfl:=dB a
  obtain rfl:=dB b
  exact⟨_,_,rfl,k _ H (.refl _) (.int _)⟩
 ·cases e
def cC8:FN:=fun ds=>match ds with
 | [.int i]=>some (.val (.int i))
 | [.bl b]=>some (.val (.int (if b then 1 else 0)))
 | _=>none
theorem aB6:cJ3 (fun xs H Q=>(∃ i,xs=[.int i]/\Q (.int i) H)\/∃ k,xs=[.bl k]/\Q (.int (if k then 1 else 0)) H) cC8:=by
 intro H ds vs Q res vw e k
 unfold cC8 at e
 split at e
 ·cases e
  obtain⟨x,rfl,a⟩:=bO4 vw
  obtain rfl:=dB a
  exact .inl ⟨_,rfl,k _ H (.refl _) (.int _)⟩
 ·cases e
  obtain⟨x,rfl,a⟩:=bO4 vw
  obtain rfl:=aA2 a
  exact .inr ⟨_,rfl,k _ H (.refl _) (.int _)⟩
 ·cases e
def cX8:FN:=fun ds=>match ds with
 | [.lst l]=>some (.own (.lst l))
 | [.tup l]=>some (.own (.lst l))
 | _=>none
def cX9:FN:=fun ds=>match ds with
 | [.lst l]=>some (.val (.tup l))
 | [.tup l]=>some (.val (.tup l))
 | _=>none
theorem cK4:cJ3 cH6 cX9:=by
 intro H ds vs Q res vw e k
 unfold cX9 at e
 split at e
 ·cases e
  obtain⟨x,rfl,a⟩:=bO4 vw
  obtain⟨p,xs,rfl,h1,r1⟩:=jE a
  exact⟨p,true,xs,rfl,h1,fun q hq=>k _ _ (bR hq) (aB3 hq r1)⟩
 ·cases e
  obtain⟨x,rfl,a⟩:=bO4 vw
  obtain⟨p,xs,rfl,h1,r1⟩:=fY a
  exact⟨p,false,xs,rfl,cJ h1,k _ H (.refl _) (.tup h1 r1)⟩
 ·cases e
def dH2:D->String
 | .non=>"NoneType"
 | .bl _=>"bool"
 | .int _=>"int"
 | .str _=>"str"
 | .lst _=>"list"
 | .tup _=>"tuple"
 | .dic _ _=>"dict"
def cQ0(c:String):F1:=fun d=>match d with
 | .dic _ _=>none
 | d=>some (.val (.bl (lM (dH2 d) c)))
def dN3:F1:=iu fun i=>.int (PySem.Builtin.Int.intBits i)
def dD2:FM:=fun d ds=>match d,ds with
 | .lst l,[e]=>if l.length < sizeLine then some (.lst (l++[e]),.non)else none
 | _,_=>none
theorem rN{H:Hp}{l:List D}{p:Addr}(h:eK H (.lst l) p):∃ xs,H p=some (.lst xs)/\Rps H l xs:=h
theorem cK5:dG8 aT4 dD2:=by
 intro H d p ds vs Q d' e ow r eq k
 unfold dD2 at eq
 split at eq
 ·split at eq
  ·rename_i l x hl
   cases eq
   obtain⟨xs,h1,h2⟩:=rN ow
   cases r with
   | cons a t=>
     cases t
     exact⟨p,xs,_,rfl,rfl,h1,by rw[← h2.length];exact hl,k _ _ ⟨_,aG,(h2.append (.cons a .nil)).mono (eK.ext ow)⟩ .non⟩
  ·cases eq
 ·cases eq
def cK6:FM:=fun d ds=>match d,ds with
 | .lst l,[.lst m]=>if l.length+m.length<=sizeLine then some (.lst (l++m),.non)else none
 | _,_=>none
def cY0:V->List V->Hp->VK->Prop:=fun x vs H Q=>∃ l b xs zs,x=.ref l/\vs=[.ref b]/\H l=some (.lst xs)/\eP H b=some (true,zs)/\xs.length+zs.length<=sizeLine/\Q .non (upd H l (.lst (xs++zs)))
theorem aY1{X:Cx}:MtM X "list.extend" cY0:=by
 intro pins s σ H x vs v us Q I rx rv h
 obtain⟨l,b,xs,zs,rfl,rfl,hH,hB,hz,q⟩:=h
 cases rx
 obtain⟨u,rfl,ru⟩:=rv.one
 cases ru
 obtain⟨z,its,n,r,hl,e⟩:=I.lstM hH
 obtain⟨z2,its2,n2,r2,hl2,e2⟩:=wH I hB
 have hsz:its.toArray.size+its2.toArray.size<=sizeLine:=by rw[List.size_toArray,List.size_toArray];omega
 have hlong:¬ (!its.toArray.isEmpty&&Builtin.List.listTooLong (its.toArray.size+its2.toArray.size))=true:=by
  rw[aG9 hsz,Bool.and_false]
  exact Bool.false_ne_true
 refine call_meets F.slot_list_extend ⟨_,e,rfl⟩ F.entry_list_extend (F.args_list_extend_2 _ _)
  (AutoSeq1.list_extend_list_list_0 l its.toArray n b its2.toArray n2 hlong (by rw[List.size_toArray];omega) (by omega)) ⟨e,e2,?_⟩
 refine⟨.non,_,I.lset (its':=its++its2) hH e (by simp) (r.append r2) ?_,rfl,q⟩
 rw[List.length_append]
 omega
theorem aY2:dK1 cY0 cK6:=by
 intro H d p ds vs Q d' e ow r eq k
 unfold cK6 at eq
 split at eq
 ·split at eq
  ·rename_i l m hl
   cases eq
   obtain⟨xs,h1,h2⟩:=rN ow
   obtain⟨x,rfl,a⟩:=bO4 r
   obtain⟨q,ys,rfl,h3,r3⟩:=jE a
   have:=h2.length
   have:=r3.length
   exact⟨p,q,xs,ys,rfl,rfl,h1,h3,by omega,k _ _ ⟨_,aG,(h2.append r3).mono (eK.ext ow)⟩ .non⟩
  ·cases eq
 ·cases eq
def dD3(i:Int)(e:D):D->Option D
 | .lst l=>(ixN l.length i).map fun j=>.lst (l.set j e)
 | _=>none
def cQ1(k:Nat)(ri re:DE):DS:=fun σ=>(re σ).bind fun x=>match x.1 with
 | .val d=>if aA4 "list" k x.2=true then(ri x.2).bind fun y=>(rd y.2 y.1).bind fun di=>match di with
   | .int i=>(bU1 (fun a _=>(dD3 i d a).map fun b=>(b,.non)) k [] y.2).bind fun z=>some (.nx z.2)
   | _=>none else none
 | _=>none
theorem aY3{X:Cx}{E:Ex}{st:Stmt}{k:Nat}{ri re:DE}(h:∀ Γ,PS X st (bN9 (dTE Γ re) (dE5 (aG5 k) (dTE Γ ri) cG3))):GS E X st (cQ1 k ri re):=.mk fun Γ=>psW (h Γ) fun D σV H ⟨σ,ok,o,e,kk⟩=>by
 obtain⟨⟨x,σ1⟩,e1,e⟩:=bind_some e
 refine⟨σ,ok,x,σ1,e1,fun v H1 ok1 r1 st1 f1=>?_⟩
 cases x with
 | own d=>cases e
 | slot d=>cases e
 | val d=>
   have e':(if aA4 "list" k σ1=true then(ri σ1).bind fun y=>(rd y.2 y.1).bind fun di=>match di with
    | .int i=>(bU1 (fun a _=>(dD3 i d a).map fun b=>(b,.non)) k [] y.2).bind fun z=>some (.nx z.2)
    | _=>none else none)=some o:=e
   split at e'
   ·rename_i hn
    obtain⟨⟨y,σ2⟩,e2,e'⟩:=bind_some e'
    obtain⟨di,e3,e'⟩:=bind_some e'
    obtain⟨s0,hs0,hm0,ht0⟩:=vZ hn
    obtain⟨p,ep,ow⟩:=ok1.ownAt hs0 hm0
    dsimp only at e'
    split at e'
    ·rename_i i
     obtain⟨⟨z,σ3⟩,e4,e'⟩:=bind_some e'
     cases e'
     obtain⟨s,d',y',hs,hm,e5,rfl,rfl⟩:=nA e4
     obtain⟨b,e6,e7⟩:=Option.map_eq_some_iff.mp e5
     cases e7
     refine⟨_,ep,σ1,ok1,y,σ2,e2,fun vi H2 ok2 r2 st2 f2=>?_⟩
     obtain rfl:=dB (r2.vw ok2 e3)
     obtain⟨p',ep',ow2⟩:=ok2.ownAt hs (hZ hm)
     rw[ep]at ep';cases ep'
     have rv:Rp H2 d v:=Rp.mono (st2.ext ok1) r1
     obtain⟨m,sd⟩:=s
     cases sd with
     | lst l=>
       obtain⟨j,e8,e9⟩:=Option.map_eq_some_iff.mp e6
       cases e9
       obtain⟨xs,h1,h2⟩:=rN ow2
       refine⟨p,xs,i,j,rfl,rfl,h1,by rw[← h2.length];exact e8,?_⟩
       obtain⟨ok3,st3⟩:=ok2.write (d':=.lst (l.set j d)) (o':=.lst (xs.set j v)) hs hm ep ⟨_,aG,(h2.set j rv).mono (eK.ext ow2)⟩
       exact kk _ _ ok3 ((st1.trans st2).trans st3)
     | _=>cases e6
    ·cases e'
   ·cases e'
noncomputable def isD(neg:Bool):F2:=fun d e=>match e with
 | .non=>some (.val (.bl (if neg then !decide (d=.non)else decide (d=.non))))
 | .bl b=>(match d with | .bl a=>some (.val (.bl (if neg then !decide (a=b)else decide (a=b)))) | _=>none)
 | _=>none
theorem aO8{H:Hp}{d:D}{v:V}(h:Vw H d v):decide (v=.non)=decide (d=.non):=by
 rcases h with h | ⟨p,rfl,h⟩
 ·cases h<;>simp
 ·cases d<;>first | exact h.elim | simp
theorem aY4{neg:Bool}:pJ (cI0 neg) (isD neg):=by
 intro H d1 d2 x y Q res v1 v2 e k
 unfold isD at e
 split at e
 ·cases e
  obtain rfl:=cC7 v2
  show Q (.bl (if neg then !decide (x=.non)else decide (x=.non))) H
  rw[aO8 v1]
  exact k _ H (.refl _) (.bl _)
 ·split at e
  ·cases e
   obtain rfl:=aA2 v2
   obtain rfl:=aA2 v1
   exact k _ H (.refl _) (.bl _)
  ·cases e
 ·cases e
end Dv
namespace Dv
open PySem L2
def aO9(i j:Int):Prop:=0 < j/\j < 18446744073709551616
theorem aK4{X:Cx}:OpR X (binaryOp .FloorDiv) (rI aO9 fun i j=>.int (i / j)):=opI fun i j _ _ _ _ _ hc q=>by
 have h1:(0:Int) < j:=hc.1
 have h2:j < 18446744073709551616:=hc.2
 refine PyProof.Rows.floordiv_int (by omega) (by rw[Int.fdiv_eq_ediv_of_nonneg i (by omega)];exact q) (.inl (PyProof.noPylong_of_log2 ?_))
 have h0:j.natAbs≠0:=by omega
 have h64:j.natAbs.log2 < 64:=(Nat.log2_lt h0).mpr (by omega)
 omega
noncomputable def dD4:F2:=iiC aO9 fun i j=>.int (i / j)
theorem aY5:pJ (rI aO9 fun i j=>.int (i / j)) dD4:=aB2 fun _ _ _=>.int _
mutual
def pO:D->PyData
 | .non=>.none
 | .bl b=>.bool b
 | .int i=>.int i
 | .str x=>.str x
 | .tup l=>.tuple (toPys l)
 | .lst l=>.list (toPys l)
 | .dic _ _=>.dict []
def toPys:List D->List PyData
 | []=>[]
 | d::r=>pO d::toPys r
end
section
variable{X:Cx}{pins:List (Addr×Obj)}{σ:St}{H:Hp}{s:Shared}
mutual
theorem aK5(I:Inv X pins σ H s):∀ {d:D} {v:V} {u:Value},Rp H d v->eG v u->(pO d).canLay0=true->∃ as,Reads s.heap u (pO d) as
 | _,_,_,.non,r,_=>by cases r;exact⟨_,.none⟩
 | _,_,_,.bl b,r,_=>by cases r;exact⟨_,.bool b⟩
 | _,_,_,.int i,r,_=>by obtain⟨t,rfl⟩:=r;exact⟨_,.int i t⟩
 | _,_,_,.str x,r,_=>by obtain⟨t,rfl⟩:=r;exact⟨_,.str x t⟩
 | _,_,_,.tup h rs,r,hc=>by
   cases r
   obtain⟨_,its,vr,⟨o,ho,hcl,n,hd⟩,_⟩:=I.hok _ _ h
   obtain⟨as,ra⟩:=rps_reads I rs vr hc
   exact⟨_,.tuple ho hcl hd (by simpa using ra)⟩
 | _,_,_,.lst h rs,r,hc=>by
   cases r
   obtain⟨_,_,its,n,vr,e⟩:=I.hok _ _ h
   obtain⟨as,ra⟩:=rps_reads I rs vr hc
   exact⟨_,.list e rfl rfl (by simpa using ra)⟩
 | _,_,_,.dic h k rs,r,hc=>nomatch hc
theorem rps_reads(I:Inv X pins σ H s):∀ {l:List D} {vs:List V} {us:List Value},Rps H l vs->cF vs us->PyData.canLayAll0 (toPys l)=true->∃ as,ReadsAll s.heap us (toPys l) as
 | [],_,_,.nil,r,_=>by cases r;exact⟨_,.nil⟩
 | d::l,_,_,.cons a t,r,hc=>by
   cases r with
   | cons r1 r2=>
     have hc':(pO d).canLay0=true/\PyData.canLayAll0 (toPys l)=true:=by simpa[toPys,PyData.canLayAll0]using hc
     obtain⟨as,h1⟩:=aK5 I a r1 hc'.1
     obtain⟨bs,h2⟩:=rps_reads I t r2 hc'.2
     exact⟨_,.cons h1 h2⟩
end
theorem kS(I:Inv X pins σ H s){d:D}{v:V}{u:Value}(h:Vw H d v)(r:eG v u)(hc:(pO d).canLay0=true):∃ as,Reads s.heap u (pO d) as:=by
 rcases h with h | ⟨p,rfl,h⟩
 ·exact aK5 I h r hc
 ·cases r
  cases d with
  | lst l=>
    obtain⟨xs,h1,h2⟩:=rN h
    obtain⟨_,its,n,vr,e⟩:=I.hok _ _ h1
    obtain⟨as,ra⟩:=rps_reads I h2 vr hc
    exact⟨_,.list e rfl rfl (by simpa using ra)⟩
  | dic ks vs=>exact nomatch hc
  | _=>exact h.elim
end
def aK6(d e:D):Bool:=PyData.eqv (pO d) (pO e)
def iZ(d:D):Bool:=(pO d).canLay0&&decide ((pO d).depth<=60)
def dK4(neg:Bool):R2:=fun x y H Q=>∃ d e,Vw H d x/\Vw H e y/\iZ d=true/\iZ e=true/\Q (.bl (if neg then !aK6 d e else aK6 d e)) H
theorem fE{d:D}(h:iZ d=true):(pO d).canLay0=true/\(pO d).depth<=60:=by
 unfold iZ at h
 rw[Bool.and_eq_true,decide_eq_true_eq]at h
 exact h
theorem eE{X:Cx}(hu:X.A.units+64 < cLine):OpR X (compareOp .Eq) (dK4 false):=by
 intro pins s σ H x y v u Q I rx ry h
 obtain⟨d,e,v1,v2,c1,c2,q⟩:=h
 obtain⟨a1,b1⟩:=fE c1
 obtain⟨a2,b2⟩:=fE c2
 obtain⟨as,r1⟩:=kS I v1 rx a1
 obtain⟨bs,r2⟩:=kS I v2 ry a2
 exact SeqAt.rcAt_reads r1 r2 a1 a2 (by omega) _ _ _ _ ⟨.bl _,H,I,rfl,q⟩
def eqD(neg:Bool):F2:=fun d e=>if iZ d=true/\iZ e=true then some (.val (.bl (if neg then !aK6 d e else aK6 d e)))else none
theorem eF{neg:Bool}:pJ (dK4 neg) (eqD neg):=by
 intro H d1 d2 x y Q res v1 v2 e k
 unfold eqD at e
 split at e
 ·rename_i hc
  cases e
  exact⟨d1,d2,v1,v2,hc.1,hc.2,k _ H (.refl _) (.bl _)⟩
 ·cases e
def dH3(neg:Bool):R2:=fun x y H Q=>(∃ i j,x=.str i/\y=.str j/\Q (.bl (if neg then(Builtin.Str.occurrences j i 0 j.length 1).isEmpty else !(Builtin.Str.occurrences j i 0 j.length 1).isEmpty)) H) \/
 ∃ d e b l,Vw H d x/\Vw H e y/\cP8 e=some (b,l)/\iZ d=true/\iZ e=true/\Q (.bl (if neg then !(l.any fun y=>aK6 y d)else l.any fun y=>aK6 y d)) H
theorem rO(d:D):∀ l:List D,(toPys l).any (fun y=>PyData.eqv y (pO d))=l.any fun y=>aK6 y d
 | []=>rfl
 | e::r=>by show(PyData.eqv (pO e) (pO d)||(toPys r).any _)=_;rw[rO d r];rfl
theorem yM{e:D}{b:Bool}{l:List D}(h:cP8 e=some (b,l)):PyData.depthAll (toPys l)<=(pO e).depth/\((pO e).canLay0=true->PyData.canLayAll0 (toPys l)=true):=by
 cases e with
 | lst l'=>cases h;exact⟨by show _<=PyData.depth (.list (toPys l));simp only[PyData.depth];omega,fun z=>z⟩
 | tup l'=>cases h;exact⟨by show _<=PyData.depth (.tuple (toPys l));simp only[PyData.depth];omega,fun z=>z⟩
 | _=>cases h
theorem aY6{X:Cx}(hu:X.A.units+64 < cLine):OpR X (compareOp .In) (dH3 false):=by
 intro pins s σ H x y v u Q I rx ry h
 rcases h with⟨i,j,rfl,rfl,q⟩ | ⟨d,e,b,l,v1,v2,hs,c1,c2,q⟩
 ·exact xH pins s σ H _ _ v u Q I rx ry ⟨_,_,rfl,rfl,by simpa using q⟩
 ·obtain⟨a1,b1⟩:=fE c1
  obtain⟨a2,b2⟩:=fE c2
  obtain⟨as,r1⟩:=kS I v1 rx a1
  obtain⟨bs,r2⟩:=kS I v2 ry a2
  obtain⟨dp,cl⟩:=yM hs
  have fin:EP X pins σ Q (.bool ((toPys l).any fun y=>PyData.eqv y (pO d))) s:=⟨.bl _,H,I,by rw[rO];rfl,q⟩
  cases e with
  | lst l'=>cases hs;exact SeqAt.in_list_reads r2 r1 (cl a2) a1 (by omega) fin
  | tup l'=>cases hs;exact SeqAt.in_tuple_reads r2 r1 (cl a2) a1 (by omega) fin
  | _=>cases hs
theorem rP{X:Cx}(hu:X.A.units+64 < cLine):OpR X (compareOp .NotIn) (dH3 true):=by
 intro pins s σ H x y v u Q I rx ry h
 rcases h with⟨i,j,rfl,rfl,q⟩ | ⟨d,e,b,l,v1,v2,hs,c1,c2,q⟩
 ·exact xI pins s σ H _ _ v u Q I rx ry ⟨_,_,rfl,rfl,by simpa using q⟩
 ·obtain⟨a1,b1⟩:=fE c1
  obtain⟨a2,b2⟩:=fE c2
  obtain⟨as,r1⟩:=kS I v1 rx a1
  obtain⟨bs,r2⟩:=kS I v2 ry a2
  obtain⟨dp,cl⟩:=yM hs
  have fin:EP X pins σ Q (.bool (!(toPys l).any fun y=>PyData.eqv y (pO d))) s:=⟨.bl _,H,I,by rw[rO];rfl,q⟩
  cases e with
  | lst l'=>cases hs;exact SeqAt.notIn_list_reads r2 r1 (cl a2) a1 (by omega) fin
  | tup l'=>cases hs;exact SeqAt.notIn_tuple_reads r2 r1 (cl a2) a1 (by omega) fin
  | _=>cases hs
def inD(neg:Bool):F2:=fun d e=>match d,e with
 | .str i,.str j=>some (.val (.bl (if neg then(Builtin.Str.occurrences j i 0 j.length 1).isEmpty else !(Builtin.Str.occurrences j i 0 j.length 1).isEmpty)))
 | d,e=>match cP8 e with
   | some (_,l)=>if iZ d=true/\iZ e=true then some (.val (.bl (if neg then !(l.any fun y=>aK6 y d)else l.any fun y=>aK6 y d)))else none
   | none=>none
theorem tR{neg:Bool}:pJ (dH3 neg) (inD neg):=by
 intro H d1 d2 x y Q res v1 v2 e k
 unfold inD at e
 split at e
 ·cases e
  obtain rfl:=lB v1
  obtain rfl:=lB v2
  exact .inl ⟨_,_,rfl,rfl,k _ H (.refl _) (.bl _)⟩
 ·split at e
  ·rename_i b l hs
   split at e
   ·rename_i hc
    cases e
    exact .inr ⟨d1,d2,b,l,v1,v2,hs,hc.1,hc.2,k _ H (.refl _) (.bl _)⟩
   ·cases e
  ·cases e
def cK7(K:PySem.W.Frag):List V->Hp->VK->Prop:=fun xs H Q=>∃ x c t,xs=[x,.ty c]/\TyOf K H x (.type t)/\(t="NoneType"\/t="int"\/t="bool"\/t="str"\/t="list"\/t="tuple") /\
 (c="int"\/c="bool"\/c="str"\/c="list"\/c="tuple")/\Q (.bl (lM t c)) H
theorem yN{X:Cx}(K:PySem.W.Frag)(hK:X.K=K):kW X (.builtin "isinstance") (cK7 K):=by
 subst hK
 intro pins s σ H xs us Q I r h
 obtain⟨x,c,t,rfl,ty,h1,h2,q⟩:=h
 exact zQ pins s σ H _ us Q I r ⟨x,c,.type t,_,rfl,ty,bT0 h1 h2,q⟩
theorem cC9{X:Cx}{e:Expr}{r:DE}{c:String}(K:PySem.W.Frag)(hc:c="int"\/c="bool"\/c="str"\/c="list"\/c="tuple")(h:∀ Γ,PE X e (tCB (cK7 K) (lL (dTE Γ r) (lL (tC (.ty c)) cA7)))):GE X e (aW2 (cQ0 c) r):=.mk fun Γ=>peW (h Γ) fun σV H Q hq=>by
 have hp:cP7 (fun x H Q=>cK7 K [x,.ty c] H Q) (cQ0 c):=by
  intro H d x Q res v1 e k
  cases d with
  | non=>cases e;obtain rfl:=cC7 v1;exact⟨_,_,_,rfl,.non,.inl rfl,hc,k _ H (.refl _) (.bl _)⟩
  | bl b=>cases e;obtain rfl:=aA2 v1;exact⟨_,_,_,rfl,.bl b,.inr (.inr (.inl rfl)),hc,k _ H (.refl _) (.bl _)⟩
  | int i=>cases e;obtain rfl:=dB v1;exact⟨_,_,_,rfl,.int i,.inr (.inl rfl),hc,k _ H (.refl _) (.bl _)⟩
  | str i=>cases e;obtain rfl:=lB v1;exact⟨_,_,_,rfl,.str i,.inr (.inr (.inr (.inl rfl))),hc,k _ H (.refl _) (.bl _)⟩
  | tup l=>cases e;obtain⟨p,xs,rfl,h1,_⟩:=fY v1;exact⟨_,_,_,rfl,.tup h1,.inr (.inr (.inr (.inr (.inr rfl)))),hc,k _ H (.refl _) (.bl _)⟩
  | lst l=>
    cases e
    rcases v1 with v1 | ⟨p,rfl,v1⟩
    ·cases v1 with
     | lst h1 _=>exact⟨_,_,_,rfl,.frz h1,.inr (.inr (.inr (.inr (.inl rfl)))),hc,k _ H (.refl _) (.bl _)⟩
    ·obtain⟨xs,h1,_⟩:=rN v1
     exact⟨_,_,_,rfl,.lst h1,.inr (.inr (.inr (.inr (.inl rfl)))),hc,k _ H (.refl _) (.bl _)⟩
  | dic ks vs=>cases e
 exact aK0 hp hq
end Dv
namespace Dv
open PySem L2
theorem gE{X:Cx}{e:Expr}{r:DE}(h:GE X e r)(Γ:Gm):PE X e (dTE Γ r):=h.to Γ
theorem gA{X:Cx}{e:List Expr}{r:DA}(h:GA X e r)(Γ:Gm):PA X e (dTA Γ r):=h.to Γ
theorem gI{X:Cx}{tg e:Expr}{r:DI}(h:GI X tg e r)(Γ:Gm):PI X tg e (dTI Γ r):=h.to Γ
theorem gSs{X:Cx}{E:Ex}{e:List Stmt}{r:DS}(h:GSs E X e r)(Γ:Gm):PSs X e (dTS Γ E r):=h.to Γ
def aY7(K:PySem.W.Frag):Bool:=K.all fun p=>match p.2.cls with
 | .type n=>!(n=="list")
 | _=>true
theorem cK8{K:PySem.W.Frag}{H:Hp}{a:Addr}{ns:List Int}(hK:aY7 K=true)(hO:cU3 H)(hS:SqL K H a (ns.map V.int)):ArgOk H [⟨.val,.lst (ns.map D.int)⟩] [.ref a]:=by
 have hf:∃ o,H a=some (.frz o (.lst (ns.map V.int))):=by
  rcases hS with hS | ⟨o,its,n,hk,hc,_⟩
  ·rcases hS with hS | ⟨o,hS⟩
   ·rcases hO a with z | ⟨o,xs,z⟩
    ·rw[hS]at z;cases z
    ·rw[hS]at z;cases z
   ·exact⟨o,hS⟩
  ·exfalso
   unfold aY7 at hK
   rw[List.all_eq_true]at hK
   have hm:(a,o)∈K:=by
    clear hK hO
    have:∀ (l:List (Addr×Obj)),List.lookup a l=some o->(a,o)∈l:=by
     intro l
     induction l with
     | nil=>intro h;simp at h
     | cons p r ih=>
       intro h
       rw[List.lookup_cons]at h
       split at h
       ·rename_i e
        have:a=p.1:=by simpa using e
        cases h
        rw[this]
        exact List.mem_cons_self
       ·exact List.mem_cons_of_mem _ (ih h)
    exact this K hk
   have:=hK _ hm
   rw[hc]at this
   simp at this
 obtain⟨o,hf⟩:=hf
 refine⟨rfl,fun i s e=>?_,fun i j s t p n ei ej m=>?_,fun i s e=>?_⟩
 ·cases i with
  | zero=>simp at e;subst e;exact⟨_,rfl,.lst hf (qG ns)⟩
  | succ i=>simp at e
 ·cases i with
  | zero=>simp at ei;subst ei;cases m
  | succ i=>simp at ei
 ·cases i with
  | zero=>simp at e;subst e;exact fun z=>nomatch z
  | succ i=>simp at e
end Dv
namespace Dv
open PySem L2
def OK1{α:Type}(o:Option α)(K:α->Prop):Prop:=match o with
 | some a=>K a
 | none=>False
def RE(r:DE)(σ:Sg)(Q:Res->Sg->Prop):Prop:=OK1 (r σ) fun x=>Q x.1 x.2
def RT(r:DT)(σ:Sg)(Q:Bool->Sg->Prop):Prop:=OK1 (r σ) fun x=>Q x.1 x.2
def RA(r:DA)(σ:Sg)(Q:List Res->Sg->Prop):Prop:=OK1 (r σ) fun x=>Q x.1 x.2
def RS(r:DS)(σ:Sg)(Q:Out->Prop):Prop:=OK1 (r σ) Q
def RI(r:DI)(σ:Sg)(Q:List D->Option Nat->Sg->Prop):Prop:=OK1 (r σ) fun x=>Q x.1 x.2.1 x.2.2
def RO(r:DO)(σ:Sg)(Q:Option Int->Sg->Prop):Prop:=OK1 (r σ) fun x=>Q x.1 x.2
theorem aQ{α β:Type}{o:Option α}{f:α->Option β}{K:β->Prop}:OK1 (o.bind f) K=OK1 o fun a=>OK1 (f a) K:=by cases o<;>rfl
theorem bW{α:Type}{a:α}{K:α->Prop}:OK1 (some a) K=K a:=rfl
theorem yO{α β:Type}{o:Option α}{f:α->β}{K:β->Prop}:OK1 (o.map f) K=OK1 o fun a=>K (f a):=by cases o<;>rfl
theorem bQ{α:Type}{c:Prop}[Decidable c]{o:Option α}{K:α->Prop}:OK1 (if c then o else none) K=(c/\OK1 o K):=by
 by_cases h:c
 ·rw[if_pos h];exact propext ⟨fun q=>⟨h,q⟩,fun q=>q.2⟩
 ·rw[if_neg h];exact propext ⟨fun q=>q.elim,fun q=>h q.1⟩
theorem oY{α:Type}{o:Option α}{K:α->Prop}:OK1 o K↔∃ a,o=some a/\K a:=by
 cases o with
 | none=>exact⟨fun q=>q.elim,fun⟨_,e,_⟩=>nomatch e⟩
 | some a=>exact⟨fun q=>⟨a,rfl,q⟩,fun⟨_,e,q⟩=>by cases e;exact q⟩
theorem cP{α:Type}{o:Option α}{K K':α->Prop}(h:OK1 o K)(w:∀ a,K a->K' a):OK1 o K':=by
 cases o with
 | none=>exact h
 | some a=>exact w a h
def VK:Nat->Sg->Nat->Sg->(Res->Sg->Prop)->Prop
 | 0,some s::_,i,σ,Q=>Q (if s.m=.val then .val s.d else .slot i) σ
 | n+1,_::r,i,σ,Q=>VK n r i σ Q
 | _,_,_,_,_=>False
theorem cY1:∀ (n:Nat) (r:Sg) (i:Nat) (σ:Sg) (Q:Res->Sg->Prop),VK n r i σ Q=OK1 (match r[n]? with | some (some s)=>some (if s.m=.val then Res.val s.d else Res.slot i,σ) | _=>none) fun x=>Q x.1 x.2
 | 0,[],_,_,_=>rfl
 | 0,none::_,_,_,_=>rfl
 | 0,some s::_,_,_,_=>rfl
 | n+1,[],_,_,_=>rfl
 | n+1,_::r,i,σ,Q=>by
   show VK n r i σ Q=_
   rw[cY1 n r i σ Q,List.getElem?_cons_succ]
def GK:Nat->Sg->(D->Prop)->Prop
 | 0,some s::_,K=>K s.d
 | n+1,_::r,K=>GK n r K
 | _,_,_=>False
theorem cY2:∀ (n:Nat) (r:Sg) (K:D->Prop),GK n r K=OK1 (match r[n]? with | some (some s)=>some s.d | _=>none) K
 | 0,[],_=>rfl
 | 0,none::_,_=>rfl
 | 0,some s::_,_=>rfl
 | n+1,[],_=>rfl
 | n+1,_::r,K=>by
   show GK n r K=_
   rw[cY2 n r K,List.getElem?_cons_succ]
def RD(σ:Sg)(r:Res)(K:D->Prop):Prop:=OK1 (rd σ r) K
def PK:Nat->Sg->Sl->(Sg->Prop)->Prop
 | 0,none::r,s,K=>K (some s::r)
 | 0,some ⟨.val,_⟩::r,s,K=>K (some s::r)
 | 0,some ⟨.own,_⟩::r,s,K=>K (some s::r)
 | n+1,o::r,s,K=>PK n r s fun r'=>K (o::r')
 | _,_,_,_=>False
theorem aP0{n:Nat}{o:Option Sl}{r:Sg}:fC (o::r) (n+1)=fC r n:=by unfold fC;rw[List.getElem?_cons_succ]
theorem bV2:∀ (n:Nat) (r:Sg) (s:Sl) (K:Sg->Prop),PK n r s K=OK1 (if fC r n=true then some (r.set n (some s))else none) K
 | 0,[],s,K=>rfl
 | 0,none::r,s,K=>rfl
 | 0,some ⟨.val,_⟩::r,s,K=>rfl
 | 0,some ⟨.own,_⟩::r,s,K=>rfl
 | 0,some ⟨.par,_⟩::r,s,K=>rfl
 | 0,some ⟨.lent,_⟩::r,s,K=>rfl
 | n+1,[],s,K=>by
   show False=_
   rw[bQ];unfold fC;simp
 | n+1,o::r,s,K=>by
   show PK n r s (fun r'=>K (o::r'))=_
   rw[bV2 n r s _,bQ,bQ,aP0,List.set_cons_succ]
   rfl
def MK:Nat->Sg->FM->List D->(D->Sg->Prop)->Prop
 | 0,some ⟨.own,d⟩::r,f,ds,K=>OK1 (f d ds) fun y=>K y.2 (some ⟨.own,y.1⟩::r)
 | 0,some ⟨.par,d⟩::r,f,ds,K=>OK1 (f d ds) fun y=>K y.2 (some ⟨.par,y.1⟩::r)
 | n+1,o::r,f,ds,K=>MK n r f ds fun e r'=>K e (o::r')
 | _,_,_,_,_=>False
theorem cY3:∀ (n:Nat) (r:Sg) (f:FM) (ds:List D) (K:D->Sg->Prop),MK n r f ds K=OK1 (bU1 f n ds r) fun x=>OK1 (match x.1 with | .val d=>some d | _=>none) fun d=>K d x.2
 | 0,[],f,ds,K=>rfl
 | 0,none::r,f,ds,K=>rfl
 | 0,some ⟨.val,_⟩::r,f,ds,K=>rfl
 | 0,some ⟨.lent,_⟩::r,f,ds,K=>rfl
 | 0,some ⟨.own,d⟩::r,f,ds,K=>by
   show OK1 (f d ds) _=OK1 ((f d ds).bind fun y=>some (Res.val y.2,some (⟨.own,y.1⟩:Sl)::r)) _
   rw[aQ];rfl
 | 0,some ⟨.par,d⟩::r,f,ds,K=>by
   show OK1 (f d ds) _=OK1 ((f d ds).bind fun y=>some (Res.val y.2,some (⟨.par,y.1⟩:Sl)::r)) _
   rw[aQ];rfl
 | n+1,[],f,ds,K=>rfl
 | n+1,o::r,f,ds,K=>by
   show MK n r f ds (fun e r'=>K e (o::r'))=_
   rw[cY3 n r f ds _]
   unfold bU1
   rw[List.getElem?_cons_succ]
   cases q:r[n]? with
   | none=>rfl
   | some x=>cases x with
     | none=>rfl
     | some s=>
       dsimp only
       by_cases hm:s.m.mt=true
       ·rw[if_pos hm,if_pos hm,aQ,aQ];rfl
       ·rw[if_neg hm,if_neg hm];rfl
def TK:String->Nat->Sg->Prop->Prop
 | T,0,some ⟨.own,d⟩::_,P=>tyD T d=true/\P
 | T,0,some ⟨.par,d⟩::_,P=>tyD T d=true/\P
 | T,0,some ⟨.lent,d⟩::_,P=>tyD T d=true/\P
 | T,n+1,_::r,P=>TK T n r P
 | _,_,_,_=>False
theorem bV3:∀ (T:String) (n:Nat) (r:Sg) (P:Prop),TK T n r P=(aA4 T n r=true/\P)
 | T,0,[],P=>by simp[TK,aA4]
 | T,0,none::r,P=>by simp[TK,aA4]
 | T,0,some ⟨.val,d⟩::r,P=>by simp[TK,aA4]
 | T,0,some ⟨.own,d⟩::r,P=>by simp[TK,aA4]
 | T,0,some ⟨.par,d⟩::r,P=>by simp[TK,aA4]
 | T,0,some ⟨.lent,d⟩::r,P=>by simp[TK,aA4]
 | T,n+1,[],P=>by simp[TK,aA4]
 | T,n+1,o::r,P=>by
   show TK T n r P=_
   rw[bV3 T n r P]
   unfold aA4
   rw[List.getElem?_cons_succ]
section
variable{σ:Sg}{Q:Res->Sg->Prop}{QT:Bool->Sg->Prop}{QA:List Res->Sg->Prop}{QS:Out->Prop}{K:D->Prop}{KR:Res->Prop}{a b c:DE}{ra:DA}{t u:DT}{x y:DS}{d e:D}{f:F2}{f1:F1}{fn:FN}{i j n:Nat}{r:Sg}{o:Option Sl}
theorem dH4:RE (dC d) σ Q=Q (.val d) σ:=rfl
theorem aY8:RE (aM i) σ Q=VK i σ i σ Q:=(cY1 i σ i σ Q).symm
theorem aY9:VK (n+1) (o::r) i σ Q=VK n r i σ Q:=rfl
theorem aZ0:VK 0 (some ⟨.val,d⟩::r) i σ Q=Q (.val d) σ:=rfl
theorem aZ1:VK 0 (some ⟨.own,d⟩::r) i σ Q=Q (.slot i) σ:=rfl
theorem aZ2:VK 0 (some ⟨.par,d⟩::r) i σ Q=Q (.slot i) σ:=rfl
theorem aZ3:VK 0 (some ⟨.lent,d⟩::r) i σ Q=Q (.slot i) σ:=rfl
theorem aZ4:RE (bA f a b) σ Q=RE a σ fun x σ1=>RE b σ1 fun y σ2=>RD σ2 x fun d=>RD σ2 y fun e=>OK1 (f d e) fun r=>Q r σ2:=by
 unfold RE bA RD;simp only[aQ,bW]
theorem aZ5:RE (aW2 f1 a) σ Q=RE a σ fun x σ1=>RD σ1 x fun d=>OK1 (f1 d) fun r=>Q r σ1:=by
 unfold RE aW2 RD;simp only[aQ,bW]
theorem aZ6:RD σ (.val d) K=K d:=rfl
theorem aZ7:RD σ (.own d) K=K d:=rfl
theorem aZ8:RD σ (.slot i) K=GK i σ K:=(cY2 i σ K).symm
theorem aZ9{m:Md}:GK 0 (some ⟨m,d⟩::r) K=K d:=rfl
theorem bA0:GK (n+1) (o::r) K=GK n r K:=rfl
theorem bA1:RT (eQ a) σ QT=RE a σ fun x σ1=>RD σ1 x fun d=>OK1 (match d with | .bl b=>some b | _=>none) fun b=>QT b σ1:=by
 unfold RT RE eQ RD
 simp only[aQ]
 congr 1;funext x;congr 1;funext d
 cases d<;>rfl
theorem bA2{b:Bool}{K:Bool->Prop}:OK1 (match D.bl b with | .bl b=>some b | _=>none) K=K b:=rfl
theorem bA3:RT (cJ4 t u) σ QT=RT t σ fun b σ1=>if b=true then RT u σ1 QT else QT false σ1:=by
 unfold RT cJ4;simp only[aQ]
 congr 1;funext x;by_cases h:x.1=true<;>simp[h,OK1]
theorem cK9:RT (dOr t u) σ QT=RT t σ fun b σ1=>if b=true then QT true σ1 else RT u σ1 QT:=by
 unfold RT dOr;simp only[aQ]
 congr 1;funext x;by_cases h:x.1=true<;>simp[h,OK1]
theorem bA4:RT (bO1 t) σ QT=RT t σ fun b σ1=>QT (!b) σ1:=by
 unfold RT bO1;simp only[aQ,bW]
theorem wI:RT wD σ QT=QT true σ:=rfl
theorem aB7:RE (pK a b) σ Q=RT (eQ a) σ fun t σ1=>if t=true then RE b σ1 Q else Q (.val (.bl false)) σ1:=by
 unfold RT RE pK;simp only[aQ]
 congr 1;funext x;by_cases h:x.1=true<;>simp[h,OK1]
theorem aB8:RE (bT9 a) σ Q=RT (eQ a) σ fun t σ1=>Q (.val (.bl (!t))) σ1:=by
 unfold RT RE bT9;simp only[aQ,bW]
theorem wJ{g:F2}:RE (mZ f g a b c) σ Q=RE a σ fun x σ1=>RE b σ1 fun y σ2=>RD σ2 x fun d=>RD σ2 y fun e=>OK1 (f d e) fun k=>OK1 (match k with | .val (.bl t)=>some t | _=>none) fun t=>if t=true then RE c σ2 (fun z σ3=>RD σ3 y fun e=>RD σ3 z fun h=>OK1 (g e h) fun r=>Q r σ3)else Q (.val (.bl false)) σ2:=by
 unfold RE mZ RD
 simp only[aQ]
 congr 1;funext x;congr 1;funext y;congr 1;funext d;congr 1;funext e
 cases f d e with
 | none=>rfl
 | some k=>
   cases k with
   | val v=>
     cases v with
     | bl b=>
       cases b with
       | false=>simp[OK1]
       | true=>
         dsimp only
         simp only[aQ,bW,if_true]
     | _=>rfl
   | own v=>rfl
   | slot v=>rfl
theorem bA5{b:Bool}{K:Bool->Prop}:OK1 (match Res.val (D.bl b)with | .val (.bl t)=>some t | _=>none) K=K b:=rfl
theorem bA6:RA bD σ QA=QA [] σ:=rfl
theorem aB9:RA (aC a ra) σ QA=RE a σ fun x σ1=>RA ra σ1 fun xs σ2=>QA (x::xs) σ2:=by
 unfold RA RE aC;simp only[aQ,bW]
def RDs(σ:Sg)(rs:List Res)(K:List D->Prop):Prop:=OK1 (rds σ rs) K
def VLs(rs:List Res)(K:List D->Prop):Prop:=OK1 (vals rs) K
theorem aC0{K:List D->Prop}:RDs σ [] K=K []:=rfl
theorem aC1{x:Res}{xs:List Res}{K:List D->Prop}:RDs σ (x::xs) K=RD σ x fun d=>RDs σ xs fun ds=>K (d::ds):=by
 show OK1 ((rd σ x).bind fun d=>(rds σ xs).bind fun ds=>some (d::ds)) K=_
 unfold RDs RD;simp only[aQ,bW]
theorem bA7{K:List D->Prop}:VLs [] K=K []:=rfl
theorem bA8{xs:List Res}{K:List D->Prop}:VLs (.val d::xs) K=VLs xs fun ds=>K (d::ds):=by
 show OK1 ((vals xs).bind fun ds=>some (d::ds)) K=_
 unfold VLs;simp only[aQ,bW]
theorem cL0:RE (dCB fn ra) σ Q=RA ra σ fun xs σ1=>RDs σ1 xs fun ds=>OK1 (fn ds) fun r=>Q r σ1:=by
 unfold RE RA RDs dCB;simp only[aQ,bW]
theorem bA9:RE (lZ ra) σ Q=RA ra σ fun xs σ1=>VLs xs fun ds=>ds.length<=sizeLine/\Q (.val (.tup ds)) σ1:=by
 unfold RE RA VLs lZ;simp only[aQ,bQ,bW]
theorem bB0:RE (yH ra) σ Q=RA ra σ fun xs σ1=>VLs xs fun ds=>ds.length<=sizeLine/\Q (.own (.lst ds)) σ1:=by
 unfold RE RA VLs yH;simp only[aQ,bQ,bW]
def FK(r:Res)(σ:Sg)(K:D->Sg->Prop):Prop:=OK1 (dK0 σ r) fun x=>K x.1 x.2
def ZK:Nat->Sg->(D->Sg->Prop)->Prop
 | 0,some ⟨.own,d⟩::r,K=>K d (some ⟨.val,d⟩::r)
 | 0,some ⟨.val,d⟩::r,K=>K d (some ⟨.val,d⟩::r)
 | n+1,o::r,K=>ZK n r fun d r'=>K d (o::r')
 | _,_,_=>False
theorem cL1:RE (dFz a) σ Q=RE a σ fun x σ1=>FK x σ1 fun d σ2=>Q (.val d) σ2:=by
 unfold RE dFz FK;simp only[aQ,bW]
theorem bB1{K:D->Sg->Prop}:FK (.val d) σ K=K d σ:=rfl
theorem bB2{K:D->Sg->Prop}:FK (.own d) σ K=K d σ:=rfl
theorem bB3{K:D->Sg->Prop}:ZK 0 (some ⟨.own,d⟩::r) K=K d (some ⟨.val,d⟩::r):=rfl
theorem bB4{K:D->Sg->Prop}:ZK 0 (some ⟨.val,d⟩::r) K=K d (some ⟨.val,d⟩::r):=rfl
theorem bB5{K:D->Sg->Prop}:ZK (n+1) (o::r) K=ZK n r fun d r'=>K d (o::r'):=rfl
theorem aC2:RS dN σ QS=QS (.nx σ):=rfl
theorem aC3:RS (fun σ=>some (.ct σ)) σ QS=QS (.ct σ):=rfl
def SqK(y:DS)(QS:Out->Prop):Out->Prop
 | .nx σ=>RS y σ QS
 | o=>QS o
theorem bB6:RS (cH x y) σ QS=RS x σ (SqK y QS):=by
 unfold RS cH
 rw[aQ]
 congr 1;funext o
 cases o<;>rfl
theorem bB7:SqK y QS (.nx σ)=RS y σ QS:=rfl
theorem bB8{v:Res}:SqK y QS (.rt v σ)=QS (.rt v σ):=rfl
theorem bB9:SqK y QS (.bk σ)=QS (.bk σ):=rfl
theorem bC0:SqK y QS (.ct σ)=QS (.ct σ):=rfl
theorem aC4:RS (aA6 a) σ QS=RE a σ fun _ σ1=>QS (.nx σ1):=by unfold RS RE aA6;simp only[aQ,bW]
theorem bC1:RS (fZ a) σ QS=RE a σ fun x σ1=>QS (.rt x σ1):=by unfold RS RE fZ;simp only[aQ,bW]
theorem aC5:RS dG9 σ QS=QS (.rt (.val .non) σ):=rfl
theorem bC2:RS (jN t x y) σ QS=RT t σ fun b σ1=>if b=true then RS x σ1 QS else RS y σ1 QS:=by
 unfold RS RT jN;simp only[aQ]
 congr 1;funext z;by_cases h:z.1=true<;>simp[h]
def PtK(i:Nat)(r:Res)(σ:Sg)(K:Sg->Prop):Prop:=OK1 (dC9 i r σ) K
theorem bC3:RS (fL i a) σ QS=RE a σ fun x σ1=>PtK i x σ1 fun σ2=>QS (.nx σ2):=by unfold RS RE PtK fL;simp only[aQ,bW]
theorem bC4{K:Sg->Prop}:PtK i (.val d) σ K=PK i σ ⟨.val,d⟩ K:=(bV2 i σ _ K).symm
theorem bC5{K:Sg->Prop}:PtK i (.own d) σ K=PK i σ ⟨.own,d⟩ K:=(bV2 i σ _ K).symm
theorem bC6{s:Sl}{K:Sg->Prop}:PK 0 (none::r) s K=K (some s::r):=rfl
theorem bC7{s:Sl}{K:Sg->Prop}:PK 0 (some ⟨.val,d⟩::r) s K=K (some s::r):=rfl
theorem bC8{s:Sl}{K:Sg->Prop}:PK 0 (some ⟨.own,d⟩::r) s K=K (some s::r):=rfl
theorem bC9{s:Sl}{K:Sg->Prop}:PK (n+1) (o::r) s K=PK n r s fun r'=>K (o::r'):=rfl
theorem cL2{fm:FM}{ds:List D}{σ:Sg}:OK1 (bU1 fm i ds σ) (fun x=>Q x.1 x.2)=MK i σ fm ds fun d σ1=>Q (.val d) σ1:=by
 rw[cY3]
 apply propext
 rw[oY,oY]
 constructor
 ·rintro⟨⟨x,s⟩,e,q⟩
  obtain⟨_,_,_,_,_,_,rfl,_⟩:=nA e
  exact⟨_,e,q⟩
 ·rintro⟨⟨x,s⟩,e,q⟩
  obtain⟨_,_,_,_,_,_,rfl,_⟩:=nA e
  exact⟨_,e,q⟩
theorem aC6{T:String}{fm:FM}:RE (aO6 T i fm ra) σ Q=TK T i σ (RA ra σ fun xs σ1=>VLs xs fun ds=>MK i σ1 fm ds fun d σ2=>Q (.val d) σ2):=by
 rw[bV3]
 unfold RE aO6 RA VLs
 rw[bQ]
 simp only[aQ,cL2]
theorem aC7{T:String}{fm:FM}:RE (aA5 T i fm ra) σ Q=TK T i σ (RA ra σ fun xs σ1=>RDs σ1 xs fun ds=>MK i σ1 fm ds fun d σ2=>Q (.val d) σ2):=by
 rw[bV3]
 unfold RE aA5 RA RDs
 rw[bQ]
 simp only[aQ,cL2]
theorem bD0{T:String}{P:Prop}:TK T 0 (some ⟨.own,d⟩::r) P=(tyD T d=true/\P):=rfl
theorem bD1{T:String}{P:Prop}:TK T 0 (some ⟨.par,d⟩::r) P=(tyD T d=true/\P):=rfl
theorem bD2{T:String}{P:Prop}:TK T (n+1) (o::r) P=TK T n r P:=rfl
theorem bD3{fm:FM}{ds:List D}{K:D->Sg->Prop}:MK 0 (some ⟨.own,d⟩::r) fm ds K=OK1 (fm d ds) fun y=>K y.2 (some ⟨.own,y.1⟩::r):=rfl
theorem bD4{fm:FM}{ds:List D}{K:D->Sg->Prop}:MK 0 (some ⟨.par,d⟩::r) fm ds K=OK1 (fm d ds) fun y=>K y.2 (some ⟨.par,y.1⟩::r):=rfl
theorem bD5{fm:FM}{ds:List D}{K:D->Sg->Prop}:MK (n+1) (o::r) fm ds K=MK n r fm ds fun e r'=>K e (o::r'):=rfl
theorem bD6:RS (cQ1 i a b) σ QS=RE b σ fun x σ1=>OK1 (match x with | .val d=>some d | _=>none) fun d=>TK "list" i σ1 (RE a σ1 fun y σ2=>RD σ2 y fun di=>OK1 (match di with | .int k=>some k | _=>none) fun k=>
  MK i σ2 (fun a _=>(dD3 k d a).map fun b=>(b,.non)) [] fun _ σ3=>QS (.nx σ3)):=by
 unfold RS RE RD cQ1
 rw[aQ]
 congr 1;funext x
 obtain⟨x,σ1⟩:=x
 cases x with
 | own d=>rfl
 | slot d=>rfl
 | val d=>
   show OK1 _ _=TK _ _ _ _
   rw[bV3]
   dsimp only
   rw[bQ]
   simp only[aQ]
   congr 1;congr 1;funext y;congr 1;funext di
   cases di with
   | int k=>
     dsimp only
     rw[aQ]
     show _=MK _ _ _ _ _
     rw[← cL2 (Q:=fun _ σ3=>QS (.nx σ3))]
     rfl
   | _=>rfl
theorem bD7{K:D->Prop}:OK1 (match Res.val d with | .val d=>some d | _=>none) K=K d:=rfl
theorem bD8{k:Int}{K:Int->Prop}:OK1 (match D.int k with | .int k=>some k | _=>none) K=K k:=rfl
theorem bD9{g:DG}:RS (cJ6 g a) σ QS=RE a σ fun x σ1=>OK1 (match x with | .val d=>some d | _=>none) fun d=>OK1 (g d σ1) fun σ2=>QS (.nx σ2):=by
 unfold RS RE cJ6
 rw[aQ]
 congr 1;funext x
 obtain⟨x,σ1⟩:=x
 cases x with
 | own d=>rfl
 | slot d=>rfl
 | val d=>
   show OK1 ((g d σ1).bind _) _=OK1 (g d σ1) _
   rw[aQ];rfl
theorem cL3{K:Sg->Prop}:OK1 (dgN i d σ) K=PK i σ ⟨.val,d⟩ K:=(bV2 i σ _ K).symm
theorem aC8{gs:DGs}{l:List D}{K:Sg->Prop}:OK1 (pM n gs (.tup l) σ) K=(l.length=n/\OK1 (gs l σ) K):=by
 show OK1 (if l.length=n then gs l σ else none) K=_
 rw[bQ]
theorem wK{g:DG}{gs:DGs}{l:List D}{K:Sg->Prop}:OK1 (dW g gs (d::l) σ) K=OK1 (g d σ) fun σ1=>OK1 (gs l σ1) K:=by
 show OK1 ((g d σ).bind fun σ1=>gs l σ1) K=_
 rw[aQ]
theorem aC9{K:Sg->Prop}:OK1 (pL [] σ) K=K σ:=rfl
theorem bE0{K:D×D->Prop}:OK1 (match [d,e]with | [d,e]=>some (d,e) | _=>none) K=K (d,e):=rfl
end
def CK(run:Run)(as:List Sl)(K:Res->List Sl->Prop):Prop:=OK1 (run as) fun y=>K y.1 y.2
def AK(σ:Sg)(rs:List Res)(K:List Sl->Prop):Prop:=OK1 (rK σ rs) K
def A1(σ:Sg)(r:Res)(K:Sl->Prop):Prop:=OK1 (aB1 σ r) K
def HK:Nat->Sg->(Sl->Prop)->Prop
 | 0,some ⟨m,d⟩::_,K=>K ⟨if m.mt=true then .par else m,d⟩
 | n+1,_::r,K=>HK n r K
 | _,_,_=>False
theorem cY4:∀ (n:Nat) (r:Sg) (K:Sl->Prop),HK n r K=A1 r (.slot n) K
 | 0,[],_=>rfl
 | 0,none::_,_=>rfl
 | 0,some s::_,_=>rfl
 | n+1,[],_=>rfl
 | n+1,_::r,K=>by
   show HK n r K=_
   rw[cY4 n r K]
   show OK1 (match r[n]? with | some (some s)=>some (⟨if s.m.mt=true then .par else s.m,s.d⟩:Sl) | _=>none) K=OK1 (match (_::r)[n+1]? with | some (some s)=>some (⟨if s.m.mt=true then .par else s.m,s.d⟩:Sl) | _=>none) K
   rw[List.getElem?_cons_succ]
def UK:Nat->Sg->D->(Sg->Prop)->Prop
 | 0,some ⟨.own,_⟩::r,d,K=>K (some ⟨.own,d⟩::r)
 | 0,some ⟨.par,_⟩::r,d,K=>K (some ⟨.par,d⟩::r)
 | 0,o::r,_,K=>K (o::r)
 | n+1,o::r,d,K=>UK n r d fun r'=>K (o::r')
 | _,[],_,K=>K []
def uS(σ:Sg)(i:Nat)(d:D):Sg:=match σ[i]? with
 | some (some s)=>if s.m.mt=true then σ.set i (some ⟨s.m,d⟩)else σ
 | _=>σ
theorem cY5:∀ (n:Nat) (r:Sg) (d:D) (K:Sg->Prop),UK n r d K=K (uS r n d)
 | 0,[],_,_=>rfl
 | n+1,[],_,_=>rfl
 | 0,none::r,d,K=>rfl
 | 0,some ⟨.val,_⟩::r,d,K=>rfl
 | 0,some ⟨.own,_⟩::r,d,K=>rfl
 | 0,some ⟨.par,_⟩::r,d,K=>rfl
 | 0,some ⟨.lent,_⟩::r,d,K=>rfl
 | n+1,o::r,d,K=>by
   show UK n r d (fun r'=>K (o::r'))=_
   rw[cY5 n r d _]
   unfold uS
   rw[List.getElem?_cons_succ]
   cases r[n]? with
   | none=>rfl
   | some x=>cases x with
     | none=>rfl
     | some s=>
       dsimp only
       by_cases h:s.m.mt=true
       ·rw[if_pos h,if_pos h];rfl
       ·rw[if_neg h,if_neg h]
def sB:List Res->List Sl->Sg->Sg
 | .slot i::rs,a::as,σ=>sB rs as (uS σ i a.d)
 | _::rs,_::as,σ=>sB rs as σ
 | _,_,σ=>σ
theorem cY6{σ:Sg}{i j:Nat}{d:D}:(uS σ i d)[j]? = (σ[j]?).map fun o=>if j=i then(match o with | some s=>some (if s.m.mt=true then⟨s.m,d⟩else s) | none=>none)else o:=by
 unfold uS
 by_cases hj:j=i
 ·subst hj
  cases h:σ[j]? with
  | none=>dsimp only;rw[h];rfl
  | some o=>
    cases o with
    | none=>dsimp only;rw[h];simp
    | some s=>
      dsimp only
      by_cases hm:s.m.mt=true
      ·rw[if_pos hm,List.getElem?_set_self (List.getElem?_eq_some_iff.mp h).1];simp[hm]
      ·rw[if_neg hm,h];simp[hm]
 ·have:∀ x:Option Sl,(σ.set i x)[j]? = σ[j]?:=fun x=>List.getElem?_set_ne (Ne.symm hj)
  split
  ·split
   ·rw[this];cases σ[j]? <;> simp[hj]
   ·cases σ[j]? <;> simp[hj]
  ·cases σ[j]? <;> simp[hj]
theorem aK7:∀ (rs:List Res) (as:List Sl) (σ:Sg) (j:Nat),eR rs=true->(sB rs as σ)[j]? = (σ[j]?).map (nD rs as j)
 | [],as,σ,j,_=>by cases as<;>(show σ[j]? = _;cases σ[j]? with | none=>rfl | some o=>cases o<;>simp[nD,kA])
 | r::rs,[],σ,j,_=>by cases r<;>(show σ[j]? = _;cases σ[j]? with | none=>rfl | some o=>cases o<;>simp[nD,kA])
 | .val d::rs,a::as,σ,j,h=>aK7 rs as σ j h
 | .own d::rs,a::as,σ,j,h=>aK7 rs as σ j h
 | .slot i::rs,a::as,σ,j,h=>by
   have h':eR rs=true/\bO3 i rs=false:=by
    unfold eR at h
    rw[Bool.and_eq_true]at h
    exact⟨h.2,by simpa using h.1⟩
   show(sB rs as (uS σ i a.d))[j]? = _
   rw[aK7 rs as _ j h'.1,cY6]
   cases σ[j]? with
   | none=>rfl
   | some o=>
     cases o with
     | none=>by_cases hj:j=i<;>simp[nD,hj]
     | some s=>
       by_cases hj:j=i
       ·subst hj
        have hl:kA j rs as=none:=by
         cases q:kA j rs as with
         | none=>rfl
         | some b=>
           obtain⟨k,h1,_⟩:=fT q
           rw[qL h1]at h';cases h'.2
        simp[nD,hl,kA]
       ·have:¬ i=j:=fun z=>hj z.symm
        simp[nD,hj,kA,this]
theorem cY7{rs:List Res}{as:List Sl}{σ:Sg}(h:eR rs=true):iY rs as 0 σ=sB rs as σ:=by
 apply List.ext_getElem?
 intro j
 rw[kB,aK7 rs as σ j h,Nat.zero_add]
def BK(rs:List Res)(as:List Sl)(σ:Sg)(K:Sg->Prop):Prop:=K (sB rs as σ)
def bE1(as:List Sl)(K:Res->List Sl->Prop):Out->Prop
 | .nx σ=>K (.val .non) (mB as σ)
 | .rt r σ=>OK1 (aX3 σ r) fun r'=>K r' (mB as σ)
 | _=>False
section
variable{σ:Sg}{Q:Res->Sg->Prop}{ra:DA}{d:D}{i n:Nat}{r:Sg}{o:Option Sl}
theorem aD0{run:Run}:RE (bL n run ra) σ Q=RA ra σ fun rs σ1=>AK σ1 rs fun as=>(as.length=n/\eR rs=true)/\CK run as fun y as'=>BK rs as' σ1 fun σ2=>Q y σ2:=by
 unfold RE RA AK CK bL
 simp only[aQ,bQ,bW]
 congr 1;funext x;congr 1;funext as
 apply propext
 constructor
 ·rintro⟨h,q⟩
  refine⟨h,cP q fun y q=>?_⟩
  unfold BK;rw[← cY7 h.2];exact q
 ·rintro⟨h,q⟩
  refine⟨h,cP q fun y q=>?_⟩
  unfold BK at q;rw[← cY7 h.2]at q;exact q
theorem bE2{as:List Sl}{K:Sg->Prop}:BK [] as σ K=K σ:=by cases as<;>rfl
theorem bE3{rs:List Res}{a:Sl}{as:List Sl}{K:Sg->Prop}:BK (.val d::rs) (a::as) σ K=BK rs as σ K:=rfl
theorem bE4{rs:List Res}{a:Sl}{as:List Sl}{K:Sg->Prop}:BK (.own d::rs) (a::as) σ K=BK rs as σ K:=rfl
theorem bE5{rs:List Res}{m:Md}{as:List Sl}{K:Sg->Prop}:BK (.slot i::rs) (⟨m,d⟩::as) σ K=UK i σ d fun σ'=>BK rs as σ' K:=by
 rw[cY5];rfl
theorem bE6{e:D}{K:Sg->Prop}:UK 0 (some ⟨.own,e⟩::r) d K=K (some ⟨.own,d⟩::r):=rfl
theorem bE7{e:D}{K:Sg->Prop}:UK 0 (some ⟨.par,e⟩::r) d K=K (some ⟨.par,d⟩::r):=rfl
theorem bE8{e:D}{K:Sg->Prop}:UK 0 (some ⟨.val,e⟩::r) d K=K (some ⟨.val,e⟩::r):=rfl
theorem bE9{e:D}{K:Sg->Prop}:UK 0 (some ⟨.lent,e⟩::r) d K=K (some ⟨.lent,e⟩::r):=rfl
theorem bF0{K:Sg->Prop}:UK (n+1) (o::r) d K=UK n r d fun r'=>K (o::r'):=rfl
theorem fO{len:Nat}{b:DS}{as:List Sl}{K:Res->List Sl->Prop}:CK (wF len b) as K=RS b (ini len as) (bE1 as K):=by
 unfold CK RS wF
 rw[aQ]
 congr 1;funext o
 cases o with
 | rt x s=>show OK1 ((aX3 s x).bind _) _=OK1 (aX3 s x) _;rw[aQ];rfl
 | _=>rfl
def FSK:Nat->Sg->(Res->Prop)->Prop
 | 0,some ⟨.own,d⟩::_,K=>K (.own d)
 | 0,some ⟨.val,d⟩::_,K=>K (.val d)
 | n+1,_::r,K=>FSK n r K
 | _,_,_=>False
theorem cD0:∀ (n:Nat) (r:Sg) (K:Res->Prop),FSK n r K=OK1 (aX3 r (.slot n)) K
 | 0,[],_=>rfl
 | 0,none::_,_=>rfl
 | 0,some ⟨.val,_⟩::r,K=>rfl
 | 0,some ⟨.own,_⟩::r,K=>rfl
 | 0,some ⟨.par,_⟩::r,K=>rfl
 | 0,some ⟨.lent,_⟩::r,K=>rfl
 | n+1,[],_=>rfl
 | n+1,o::r,K=>by
   show FSK n r K=_
   rw[cD0 n r K]
   show OK1 (match r[n]? with | some (some s)=>if s.m=.own then some (Res.own s.d)else if s.m=.val then some (.val s.d)else none | _=>none) K=OK1 (match (o::r)[n+1]? with | some (some s)=>if s.m=.own then some (Res.own s.d)else if s.m=.val then some (.val s.d)else none | _=>none) K
   rw[List.getElem?_cons_succ]
section
variable{as:List Sl}{K:Res->List Sl->Prop}{KR:Res->Prop}
theorem aD1:bE1 as K (.nx σ)=K (.val .non) (mB as σ):=rfl
theorem aD2:bE1 as K (.rt (.val d) σ)=K (.val d) (mB as σ):=rfl
theorem aD3:bE1 as K (.rt (.own d) σ)=K (.own d) (mB as σ):=rfl
theorem aD4:bE1 as K (.rt (.slot i) σ)=FSK i σ fun r=>K r (mB as σ):=(cD0 i σ _).symm
theorem bF1:FSK 0 (some ⟨.own,d⟩::r) KR=KR (.own d):=rfl
theorem bF2:FSK 0 (some ⟨.val,d⟩::r) KR=KR (.val d):=rfl
theorem bF3:FSK (n+1) (o::r) KR=FSK n r KR:=rfl
theorem aD5:mB [] σ=[]:=rfl
theorem aD6{s:Sl}:mB (⟨.val,d⟩::as) (some s::r)=⟨.val,d⟩::mB as r:=rfl
theorem aD7{s:Sl}:mB (⟨.par,d⟩::as) (some s::r)=s::mB as r:=rfl
theorem aD8{s:Sl}:mB (⟨.lent,d⟩::as) (some s::r)=s::mB as r:=rfl
end
theorem bF4{K:List Sl->Prop}:AK σ [] K=K []:=rfl
theorem bF5{x:Res}{xs:List Res}{K:List Sl->Prop}:AK σ (x::xs) K=A1 σ x fun a=>AK σ xs fun as=>K (a::as):=by
 show OK1 ((aB1 σ x).bind fun a=>(rK σ xs).bind fun as=>some (a::as)) K=_
 unfold AK A1;simp only[aQ,bW]
theorem bF6{K:Sl->Prop}:A1 σ (.val d) K=K ⟨.val,d⟩:=rfl
theorem bF7{K:Sl->Prop}:A1 σ (.own d) K=K ⟨.par,d⟩:=rfl
theorem bF8{K:Sl->Prop}:A1 σ (.slot i) K=HK i σ K:=(cY4 i σ K).symm
theorem bF9{K:Sl->Prop}:HK 0 (some ⟨.own,d⟩::r) K=K ⟨.par,d⟩:=rfl
theorem bG0{K:Sl->Prop}:HK 0 (some ⟨.par,d⟩::r) K=K ⟨.par,d⟩:=rfl
theorem bG1{K:Sl->Prop}:HK 0 (some ⟨.lent,d⟩::r) K=K ⟨.lent,d⟩:=rfl
theorem bG2{K:Sl->Prop}:HK (n+1) (o::r) K=HK n r K:=rfl
end
section
variable{σ:Sg}{QS:Out->Prop}{Q:Res->Sg->Prop}{ri:DI}{g:DG}{b:DS}{a:DE}{ra:DA}
theorem cY8:RS (aQ8 ri g b) σ QS=RI ri σ fun items l σ1=>OK1 (bU7 g b items (lendO l σ1)) fun o=>QS (aK2 l σ1 o):=by
 unfold RS RI aQ8;simp only[aQ,bW]
theorem cL4{K:List D->Option Nat->Sg->Prop}:RI (dIt a) σ K=RE a σ fun x σ1=>RD σ1 x fun d=>OK1 (tO d) fun l=>K l (match x with | .slot i=>some i | _=>none) σ1:=by
 unfold RI RE RD dIt;simp only[aQ,bW];try rfl
def dH5:List D->Option (List D)
 | [.int j]=>if -(2 ^ 62)<=j/\j < 2 ^ 62 then some (aA9 0 j.toNat)else none
 | [.int i,.int j]=>if(-(2 ^ 62)<=i/\i < 2 ^ 62) /\ -(2 ^ 62)<=j/\j < 2 ^ 62 then some (aA9 i (j-i).toNat)else none
 | _=>none
theorem bG3{K:List D->Option Nat->Sg->Prop}:RI (bU6 ra) σ K=RA ra σ fun xs σ1=>RDs σ1 xs fun ds=>OK1 (dH5 ds) fun l=>K l none σ1:=by
 unfold RI RA RDs bU6
 simp only[aQ]
 congr 1;funext x;congr 1;funext ds
 match ds with
 | []=>rfl
 | [.int j]=>show OK1 (if -(2 ^ 62)<=j/\j < 2 ^ 62 then _ else none) _=OK1 (if -(2 ^ 62)<=j/\j < 2 ^ 62 then _ else none) _;rw[bQ,bQ];rfl
 | [.int i,.int j]=>show OK1 (if(-(2 ^ 62)<=i/\i < 2 ^ 62) /\ -(2 ^ 62)<=j/\j < 2 ^ 62 then _ else none) _=OK1 (if(-(2 ^ 62)<=i/\i < 2 ^ 62) /\ -(2 ^ 62)<=j/\j < 2 ^ 62 then _ else none) _;rw[bQ,bQ];rfl
 | [.non]=>rfl
 | [.bl _]=>rfl
 | [.str _]=>rfl
 | [.tup _]=>rfl
 | [.lst _]=>rfl
 | [.dic _ _]=>rfl
 | .non::_::_=>rfl
 | .bl _::_::_=>rfl
 | .str _::_::_=>rfl
 | .tup _::_::_=>rfl
 | .lst _::_::_=>rfl
 | .dic _ _::_::_=>rfl
 | .int _::.non::_=>rfl
 | .int _::.bl _::_=>rfl
 | .int _::.str _::_=>rfl
 | .int _::.tup _::_=>rfl
 | .int _::.lst _::_=>rfl
 | .int _::.dic _ _::_=>rfl
 | .int _::.int _::_::_=>rfl
theorem aD9{j:Int}{K:List D->Prop}:OK1 (dH5 [.int j]) K=((-(2 ^ 62)<=j/\j < 2 ^ 62)/\K (aA9 0 j.toNat)):=by
 show OK1 (if -(2 ^ 62)<=j/\j < 2 ^ 62 then some (aA9 0 j.toNat)else none) K=_
 rw[bQ];rfl
theorem aE0{i j:Int}{K:List D->Prop}:OK1 (dH5 [.int i,.int j]) K=(((-(2 ^ 62)<=i/\i < 2 ^ 62) /\ -(2 ^ 62)<=j/\j < 2 ^ 62)/\K (aA9 i (j-i).toNat)):=by
 show OK1 (if(-(2 ^ 62)<=i/\i < 2 ^ 62) /\ -(2 ^ 62)<=j/\j < 2 ^ 62 then some (aA9 i (j-i).toNat)else none) K=_
 rw[bQ];rfl
theorem cL5{items:List D}(P:Nat->Sg->Prop)(h0:P 0 σ)(hs:∀ i d σ,items[i]? = some d->P i σ->OK1 (g d σ) fun σ1=>RS b σ1 fun o=>∃ σ2,(o=.nx σ2\/o=.ct σ2)/\P (i+1) σ2){K:Out->Prop}(k:∀ σ',P items.length σ'->K (.nx σ')):OK1 (bU7 g b items σ) K:=by
 induction items generalizing P σ with
 | nil=>exact k σ h0
 | cons d r ih=>
   show OK1 ((g d σ).bind _) K
   rw[aQ]
   refine cP (hs 0 d σ rfl h0) fun σ1 h1=>?_
   rw[aQ]
   refine cP h1 fun o h2=>?_
   obtain⟨σ2,ho,p2⟩:=h2
   have go:OK1 (bU7 g b r σ2) K:=ih (fun i=>P (i+1)) p2 (fun i d σ e p=>hs (i+1) d σ (by simpa using e) p) fun σ' p=>k σ' (by simpa using p)
   rcases ho with rfl | rfl
   ·exact go
   ·exact go
theorem cL6{ow:List Nat}{t:DT}{e:DE}:RE (kX ow ri g t e) σ Q=RI ri σ fun items l σ1=>items.length<=sizeLine/\OK1 (aB0 ow g t e items (bZ ow (lendO l σ1))) fun y=>Q (.own (.lst y.1)) (aQ7 l σ1 (nB ow (lendO l σ1) y.2)):=by
 unfold RE RI kX;simp only[aQ,bQ,bW]
theorem rQ{ow:List Nat}{t:DT}{e:DE}{K:List D×Sg->Prop}:∀ (items:List D) (τ:Sg) (P:Nat->List D->Sg->Prop),P 0 [] τ ->
  (∀ i d acc τ,items[i]? = some d->P i acc τ->OK1 (g d τ) fun τ1=>RT t τ1 fun b τ2=>if b=true then RE e τ2 fun r τ3=>∃ v,r=.val v/\P (i+1) (acc++[v]) (bZ ow τ3)else P (i+1) acc (bZ ow τ2)) ->
  (∀ acc τ,P items.length acc τ->K (acc,τ))->OK1 (aB0 ow g t e items τ) K
 | [],τ,P,h0,_,k=>k [] τ h0
 | d::r,τ,P,h0,hs,k=>by
   show OK1 ((g d τ).bind _) K
   rw[aQ]
   refine cP (hs 0 d [] τ rfl h0) fun τ1 h1=>?_
   rw[aQ]
   refine cP h1 fun x h2=>?_
   dsimp only at h2
   by_cases ht:x.1=true
   ·rw[if_pos ht]at h2 ⊢
    rw[aQ]
    refine cP h2 fun y h3=>?_
    obtain⟨v,hv,p⟩:=h3
    rw[hv]
    dsimp only
    rw[aQ]
    exact rQ r _ (fun i acc τ=>P (i+1) (v::acc) τ) p (fun i d' acc τ' e' p'=>by simpa using hs (i+1) d' (v::acc) τ' (by simpa using e') p') fun acc τ' p'=>k (v::acc) τ' (by simpa using p')
   ·rw[if_neg ht]at h2 ⊢
    exact rQ r _ (fun i acc τ=>P (i+1) acc τ) h2 (fun i d' acc τ' e' p'=>hs (i+1) d' acc τ' (by simpa using e') p') fun acc τ' p'=>k acc τ' (by simpa using p')
end
end Dv
namespace Dv
open PySem L2
section
variable{i j:Int}{l m:List D}{K:Res->Prop}{d e:D}{σ:Sg}{Q:Res->Sg->Prop}
theorem bG4:OK1 (dQ (.int i) (.int j)) K=K (.val (.int (i+j))):=rfl
theorem aE1:OK1 (dQ (.lst l) (.lst m)) K=(l.length+m.length<=sizeLine/\K (.own (.lst (l++m)))):=by
 show OK1 (if l.length+m.length<=sizeLine then some (Res.own (.lst (l++m)))else none) K=_;rw[bQ];rfl
theorem aE2:OK1 (dQ (.tup l) (.tup m)) K=(l.length+m.length<=sizeLine/\K (.val (.tup (l++m)))):=by
 show OK1 (if l.length+m.length<=sizeLine then some (Res.val (.tup (l++m)))else none) K=_;rw[bQ];rfl
theorem aE3{x y:Str}:OK1 (dQ (.str x) (.str y)) K=(x.length+y.length<=sizeLine/\K (.val (.str (x++y)))):=by
 show OK1 (if x.length+y.length<=sizeLine then some (Res.val (.str (x++y)))else none) K=_;rw[bQ];rfl
theorem bG5:OK1 (dN0 (.int i) (.int j)) K=K (.val (.int (i-j))):=rfl
theorem bG6:OK1 (aB4 (.int i) (.int j)) K=(sQ i j/\K (.val (.int (i*j)))):=@bQ _ (sQ i j) (Classical.propDecidable _) _ _
theorem bG7:OK1 (dD4 (.int i) (.int j)) K=(aO9 i j/\K (.val (.int (i / j)))):=@bQ _ (aO9 i j) (Classical.propDecidable _) _ _
theorem bG8:OK1 (aQ9 (.int i) (.int j)) K=(0 < j/\K (.val (.int (i % j)))):=@bQ _ (0 < j) (Classical.propDecidable _) _ _
theorem bG9:OK1 (dH0 (.int i) (.int j)) K=(cP4 i j/\K (.val (.int (i ^ j.toNat)))):=@bQ _ (cP4 i j) (Classical.propDecidable _) _ _
theorem cL7:OK1 (ltI (.int i) (.int j)) K=K (.val (.bl (decide (i < j)))):=rfl
theorem cL8:OK1 (leI (.int i) (.int j)) K=K (.val (.bl (decide (i<=j)))):=rfl
theorem cL9:OK1 (gtI (.int i) (.int j)) K=K (.val (.bl (decide (j < i)))):=rfl
theorem cM0:OK1 (geI (.int i) (.int j)) K=K (.val (.bl (decide (j<=i)))):=rfl
theorem bH0:OK1 (dD1 (.int i)) K=K (.val (.int (-i))):=rfl
theorem bH1:OK1 (dN3 (.int i)) K=K (.val (.int (PySem.Builtin.Int.intBits i))):=rfl
theorem bH2:OK1 (ixD (.lst l) (.int i)) K=OK1 (atI l i) fun d=>K (.val d):=by
 show OK1 ((atI l i).map Res.val) K=_;rw[yO]
theorem bH3:OK1 (ixD (.tup l) (.int i)) K=OK1 (atI l i) fun d=>K (.val d):=by
 show OK1 ((atI l i).map Res.val) K=_;rw[yO]
theorem aE4:OK1 (jL [.lst l]) K=K (.val (.int l.length)):=rfl
theorem aE5:OK1 (jL [.tup l]) K=K (.val (.int l.length)):=rfl
theorem bH4:OK1 (cC8 [.int i]) K=K (.val (.int i)):=rfl
theorem aE6{b:Bool}:OK1 (cC8 [.bl b]) K=K (.val (.int (if b then 1 else 0))):=rfl
theorem bH5:OK1 (dH1 [.int i,.int j]) K=K (.val (.int (if j > i then j else i))):=rfl
theorem bH6:OK1 (bV0 [.int i,.int j]) K=K (.val (.int (if j < i then j else i))):=rfl
theorem aE7:OK1 (cX8 [.lst l]) K=K (.own (.lst l)):=rfl
theorem wL:OK1 (cX8 [.tup l]) K=K (.own (.lst l)):=rfl
theorem bH7:OK1 (cX9 [.lst l]) K=K (.val (.tup l)):=rfl
theorem aE8:OK1 (cX9 [.tup l]) K=K (.val (.tup l)):=rfl
theorem cM1:OK1 (eqD false (.int i) (.int j)) K=K (.val (.bl (decide (i=j)))):=by
 have h:aK6 (.int i) (.int j)=decide (i=j):=by
  show(i==j)=_
  rw[Bool.eq_iff_iff];simp
 show OK1 (if iZ (.int i)=true/\iZ (.int j)=true then some (Res.val (.bl (if false then !aK6 (.int i) (.int j)else aK6 (.int i) (.int j))))else none) K=_
 rw[if_pos ⟨rfl,rfl⟩,h];rfl
theorem bH8{c:String}:OK1 (cQ0 c (.int i)) K=K (.val (.bl (lM "int" c))):=rfl
theorem bH9{c:String}{b:Bool}:OK1 (cQ0 c (.bl b)) K=K (.val (.bl (lM "bool" c))):=rfl
theorem bI0{k:Int}{K:D×D->Prop}:OK1 ((dD3 k e (.lst l)).map fun b=>(b,D.non)) K=OK1 (ixN l.length k) fun j=>K (.lst (l.set j e),.non):=by
 show OK1 (((ixN l.length k).map fun j=>D.lst (l.set j e)).map fun b=>(b,D.non)) K=_
 rw[yO,yO]
theorem bI1{K:D×D->Prop}:OK1 (dD2 (.lst l) [e]) K=(l.length < sizeLine/\K (.lst (l++[e]),.non)):=by
 show OK1 (if l.length < sizeLine then some (D.lst (l++[e]),D.non)else none) K=_
 rw[bQ];rfl
theorem bI2{bs:List Bool}:OK1 (cP9 [.lst (bs.map D.bl)]) K=K (.val (.bl (bs.all id))):=by
 show OK1 ((aO7 (bs.map D.bl)).map fun bs=>Res.val (.bl (bs.all id))) K=_
 rw[aY0];rfl
def SK(d:D)(lo hi:Option Int)(K:Res->Prop):Prop:=OK1 (slD d lo hi) K
theorem cM2{a:DE}{x y:DO}:RE (dSl a x y) σ Q=RE a σ fun r σ1=>RO x σ1 fun lo σ2=>RO y σ2 fun hi σ3=>RD σ3 r fun d=>SK d lo hi fun v=>Q v σ3:=by
 unfold RE RO RD SK dSl;simp only[aQ,bW]
theorem bI3{K:Option Int->Sg->Prop}:RO jM σ K=K none σ:=rfl
theorem dH6{a:DE}{K:Option Int->Sg->Prop}:RO (dP a) σ K=RE a σ fun x σ1=>RD σ1 x fun d=>OK1 (match d with | .int k=>some k | _=>none) fun k=>K (some k) σ1:=by
 unfold RO RE RD dP
 simp only[aQ]
 congr 1;funext x;congr 1;funext d
 cases d<;>rfl
theorem bI4{lo hi:Option Int}:SK (.lst l) lo hi K=K (.own (.lst (pN l lo hi))):=rfl
theorem bI5{lo hi:Option Int}:SK (.tup l) lo hi K=K (.val (.tup (pN l lo hi))):=rfl
theorem bI6{x:D}{K:D->Prop}:OK1 (atI (x::l) 0) K=K x:=by
 show OK1 ((ixN (x::l).length 0).bind fun j=>(x::l)[j]?) K=_
 unfold ixN
 rw[if_pos (Int.le_refl 0),if_pos (by first | (simp;done) | (simp;omega))];rfl
theorem bI7{x y:D}{K:D->Prop}:OK1 (atI (x::y::l) 1) K=K y:=by
 show OK1 ((ixN (x::y::l).length 1).bind fun j=>(x::y::l)[j]?) K=_
 unfold ixN
 rw[if_pos (by decide),if_pos (by first | (simp;done) | (simp;omega))];rfl
theorem bI8{x:D}{K:Nat->Prop}:OK1 (ixN (x::l).length 0) K=K 0:=by
 unfold ixN
 rw[if_pos (Int.le_refl 0),if_pos (by first | (simp;done) | (simp;omega))];rfl
theorem bI9{x y:D}{K:Nat->Prop}:OK1 (ixN (x::y::l).length 1) K=K 1:=by
 unfold ixN
 rw[if_pos (by decide),if_pos (by first | (simp;done) | (simp;omega))];rfl
theorem bJ0{i j:Int}(h1:-(2 ^ 64) < j)(h2:j < 2 ^ 64):sQ i j=True:=eq_true (.inl (.inr ⟨h1,h2⟩))
theorem bJ1{i j:Int}(h1:-(2 ^ 64) < i)(h2:i < 2 ^ 64):sQ i j=True:=eq_true (.inl (.inl ⟨h1,h2⟩))
theorem bJ2{i:Int}{p:Prop}[Decidable p]:sQ i (if p then 1 else 0)=True:=eq_true (.inl (.inr (by split<;>decide)))
theorem bV4{i j:Int}(h1:0 < j)(h2:j < 18446744073709551616):aO9 i j=True:=eq_true ⟨h1,h2⟩
theorem cM3{i j:Int}(h1:0<=j)(h2:j<=1000000)(h3:-18446744073709551616 < i)(h4:i < 18446744073709551616):cP4 i j=True:=eq_true ⟨h1,h2,by show i.natAbs < 18446744073709551616;omega⟩
theorem bJ3{σ:Sg}:lendO none σ=σ:=rfl
theorem cM4{σ:Sg}{o:Out}:aK2 none σ o=o:=by cases o<;>rfl
theorem bJ4{σ σ':Sg}:aQ7 none σ σ'=σ':=rfl
theorem bJ5:(tyD "list" (.lst l)=true)=True:=by simp[tyD]
end
end Dv
namespace Dv
open PySem L2
def sR:List D->Option (List Str)
 | []=>some []
 | .str s::r=>(sR r).bind fun l=>some (s::l)
 | _::_=>none
theorem qM:∀ {l:List D} {zs:List Str},sR l=some zs->l=zs.map D.str
 | [],_,h=>by cases h;rfl
 | .str s::r,_,h=>by
   obtain⟨l,e1,e2⟩:=bind_some h
   cases e2
   rw[qM e1];rfl
 | .non::_,_,h=>by cases h
 | .int _::_,_,h=>by cases h
 | .bl _::_,_,h=>by cases h
 | .tup _::_,_,h=>by cases h
 | .lst _::_,_,h=>by cases h
 | .dic _ _::_,_,h=>by cases h
theorem rR(zs:List Str):sR (zs.map D.str)=some zs:=by
 induction zs with
 | nil=>rfl
 | cons b r ih=>show(sR (r.map D.str)).bind _=_;rw[ih];rfl
def bJ6(sep:Str):F1:=fun d=>match d with
 | .lst l=>(sR l).bind fun ys=>if(ys.map (·.length)).sum+ys.length*sep.length<=16777216 then some (.val (.str (PySem.Txt.join sep ys)))else none
 | _=>none
theorem cM5{X:Cx}{e:Expr}{sep:Str}{r:DE}(K:PySem.W.Frag)(h:∀ Γ,PE X e (tBM K "str" (bQ1 K) (tC (.str sep)) (dTA Γ (aC r bD)))):GE X e (aW2 (bJ6 sep) r):=.mk fun Γ=>peW (h Γ) fun σV H Q hq=>by
 have hp:cP7 (fun x H Q=>bQ1 K (.str sep) [x] H Q) (bJ6 sep):=by
  intro H d x Q res v1 e k
  unfold bJ6 at e
  split at e
  ·obtain⟨ys,e1,e⟩:=bind_some e
   split at e
   ·rename_i hs
    cases e
    obtain⟨p,xs,rfl,h1,r1⟩:=jE v1
    rw[qM e1]at r1
    rw[r1.strs_inv]at h1
    exact⟨sep,p,ys,rfl,rfl,eY h1,hs,k _ H (.refl _) (.str _)⟩
   ·cases e
  ·cases e
 obtain⟨σ,ok,res,σ',e,k⟩:=hq
 obtain⟨⟨x,σ1⟩,e1,e⟩:=bind_some e
 obtain⟨d1,e3,e⟩:=bind_some e
 obtain⟨r,e5,e⟩:=bind_some e
 cases e
 refine⟨rfl,σ,ok,[x],σ1,?_,fun vs H1 ok1 r1 st1 _=>?_⟩
 ·show((_:Option _).bind _)=_
  rw[e1];rfl
 ·cases r1 with
  | cons r1 t=>
    cases t
    refine hp H1 d1 _ Q _ (r1.vw ok1 e3) e5 fun v H' sm nw=>?_
    exact k v H' (ok1.same sm) (nw.res ok1) (st1.trans (.same sm)) (nw.frh.back st1)
theorem cM6{sep:Str}{zs:List Str}{K:Res->Prop}:OK1 (bJ6 sep (.lst (zs.map D.str))) K=((zs.map (·.length)).sum+zs.length*sep.length<=16777216/\K (.val (.str (PySem.Txt.join sep zs)))):=by
 show OK1 ((sR (zs.map D.str)).bind _) K=_
 rw[rR]
 show OK1 (if _ then _ else none) K=_
 rw[bQ];rfl
theorem bV5{X:Cx}(K:PySem.W.Frag)(hK:X.K=K):MtR X "str.join" (bQ1 K):=by rw[← hK];exact cG9
def nv1(σ:Sg):Res->Option D
 | .own d=>some d
 | .slot i=>match σ[i]? with
   | some (some s)=>if s.m=.val then none else some s.d
   | _=>none
 | .val _=>none
def nvs(σ:Sg):List Res->Option (List D)
 | []=>some []
 | r::rs=>(nv1 σ r).bind fun d=>(nvs σ rs).bind fun ds=>some (d::ds)
def dN4:FN:=fun ds=>match ds with
 | [.lst l]=>some (.own (.lst l.reverse))
 | _=>none
def dK5(l m:List D):List D:=(l.zip m).map fun p=>.tup [p.1,p.2]
def dN5:FN:=fun ds=>match ds with
 | [.lst l,.lst m]=>some (.val (.tup (dK5 l m)))
 | _=>none
section
variable{σ:Sg}{Q:Res->Sg->Prop}{ra:DA}
def NV(σ:Sg)(rs:List Res)(K:List D->Prop):Prop:=OK1 (nvs σ rs) K
def N1(σ:Sg)(r:Res)(K:D->Prop):Prop:=OK1 (nv1 σ r) K
theorem bJ7{K:List D->Prop}:NV σ [] K=K []:=rfl
theorem bJ8{d:D}{K:D->Prop}:N1 σ (.own d) K=K d:=rfl
def GN:Nat->Sg->(D->Prop)->Prop
 | 0,some ⟨m,d⟩::_,K=>if m=.val then False else K d
 | n+1,_::r,K=>GN n r K
 | _,_,_=>False
theorem bJ9{d:D}{r:Sg}{K:D->Prop}:GN 0 (some ⟨.own,d⟩::r) K=K d:=rfl
theorem bK0{d:D}{r:Sg}{K:D->Prop}:GN 0 (some ⟨.par,d⟩::r) K=K d:=rfl
theorem bK1{d:D}{r:Sg}{K:D->Prop}:GN 0 (some ⟨.lent,d⟩::r) K=K d:=rfl
theorem bK2{n:Nat}{o:Option Sl}{r:Sg}{K:D->Prop}:GN (n+1) (o::r) K=GN n r K:=rfl
theorem bK3{l:List D}{K:Res->Prop}:OK1 (dN4 [.lst l]) K=K (.own (.lst l.reverse)):=rfl
theorem bK4{l m:List D}{K:Res->Prop}:OK1 (dN5 [.lst l,.lst m]) K=K (.val (.tup (dK5 l m))):=rfl
end
end Dv
namespace PySem
section
variable{prog:Program}{w:World}{A:Around}{E:Value->Shared->Prop}{s:Shared}
theorem bV6{it t:Addr}{i:Nat}{its:Array Value}{x:Value}{Q:Value->Shared->Prop}(hit:s.heap.IsTupleIter it t i)(ht:s.heap.IsTuple t its)(hx:its[i]? = some x)
  (q:∀ h',h'.IsTupleIter it t (i+1)->Heap.SameBut it s.heap h'->Q x {s with heap:=h'}):wpAny (model prog w) A (Builtin.SmallTypes.nextOf (.ref it)) Q E s:=by
 obtain⟨o,ho,hc,hd⟩:=id hit
 obtain⟨ot,hot,_,nt,hdt⟩:=ht
 unfold Builtin.SmallTypes.nextOf
 refine wpAny_bind (wpAny_callSpecial?_slot (name:=Str.ofString "__next__") hit.typeIs F.slot_tuple_iterator_next (wpAny_call_entry F.slot_tuple_iterator_next hit.typeIs F.entry_tuple_iterator_next ?_ (F.args_tuple_iterator_next_1 _)))
 show wpAny _ _ (field (.ref it) 0 >>= _) _ _ s;refine wpAny_bind (wpAny_field ho hd (x:=.ref t) rfl ?_)
 show wpAny _ _ (if(Value.ref t==Value.none)=true then _ else _) _ _ s;rw[if_neg (show ¬ ((Value.ref t==Value.none)=true)from Bool.false_ne_true)]
 show wpAny _ _ (field (.ref it) 1 >>= _) _ _ s;refine wpAny_bind (wpAny_field ho hd (x:=.int i 0) rfl ?_)
 show wpAny _ _ (seqItems? (.ref t) >>= _) _ _ s;refine wpAny_bind (wpAny_seqItems hot hdt ?_);simp only[Int.toNat_natCast,hx]
 refine wpAny_bind (wpAny_setField ho hd (by simp) (wpAny_pure ⟨x,rfl,wpAny_pure (q _ ⟨_,Heap.get?_update_self _ ho (Obj.isFreed_of_fields (Obj.data_mapFields hd _)),(Obj.cls_mapFields ..).trans hc,by rw[Obj.data_mapFields hd];simp[rawInt]⟩ (Heap.SameBut.update ..))⟩))
theorem yP{it t:Addr}{i:Nat}{its:Array Value}{Q:Value->Shared->Prop}(hh:A.handled=none)(hit:s.heap.IsTupleIter it t i)(ht:s.heap.IsTuple t its)(hx:its[i]? = none)
  (q:∀ h' e,Heap.ExtBut it s.heap h'->(∃ o,h'.get? e=some o/\o.cls=.type "StopIteration")->E (.ref e) {s with heap:=h'}):wpAny (model prog w) A (Builtin.SmallTypes.nextOf (.ref it)) Q E s:=by
 obtain⟨o,ho,hc,hd⟩:=id hit
 obtain⟨ot,hot,_,nt,hdt⟩:=ht
 unfold Builtin.SmallTypes.nextOf
 refine wpAny_bind (wpAny_callSpecial?_slot (name:=Str.ofString "__next__") hit.typeIs F.slot_tuple_iterator_next (wpAny_call_entry F.slot_tuple_iterator_next hit.typeIs F.entry_tuple_iterator_next ?_ (F.args_tuple_iterator_next_1 _)))
 show wpAny _ _ (field (.ref it) 0 >>= _) _ _ s;refine wpAny_bind (wpAny_field ho hd (x:=.ref t) rfl ?_)
 show wpAny _ _ (if(Value.ref t==Value.none)=true then _ else _) _ _ s;rw[if_neg (show ¬ ((Value.ref t==Value.none)=true)from Bool.false_ne_true)]
 show wpAny _ _ (field (.ref it) 1 >>= _) _ _ s;refine wpAny_bind (wpAny_field ho hd (x:=.int i 0) rfl ?_)
 show wpAny _ _ (seqItems? (.ref t) >>= _) _ _ s;refine wpAny_bind (wpAny_seqItems hot hdt ?_);simp only[Int.toNat_natCast,hx]
 refine wpAny_bind (wpAny_rule (wpAny_bind (wpAny_setField ho hd (by simp) ?_)))
 show wpAny _ _ (newExc (.type "StopIteration") [] >>= _) _ _ _;refine wpAny_bind ?_;simp only[newExc,newTuple]
 refine wpAny_bind (wpAny_newObj_type ?_ (by size_fits));refine wpAny_bind (m:=firstArgMember _ _) (wpAny_of_eq (a:=Value.none) (by first | rfl | (simp only[firstArgMember];rfl)) ?_)
 refine wpAny_newObj_type ?_ (by size_fits);simp only[raiseNew];refine wpAny_bind (wpAny_handled ?_)
 rw[show A.in1.handled=none from hh];refine wpAny_bind (wpAny_pure (wpAny_throw ?_))
 exact q _ _ (((Heap.SameBut.update ..).extBut.push _).push _) ⟨_,Heap.get?_push_size _ rfl,rfl⟩
end
theorem Draws.tup{prog:Program}{w:World}{A:Around}(hh:A.handled=none)(it t:Addr)(hne:t≠it)(its:Array Value) :
  Draws prog w A it [it,t] its.size (fun i v=>its[i]? = some v) (fun i h=>h.IsTupleIter it t i/\h.IsTuple t its) where
 live:=fun _ _ st=>st.1.imp fun _ z=>z.1
 frame:=fun _ _ _ st hk=>⟨st.1.at fun o e=>hk it (by simp) o e,st.2.at fun o e=>hk t (by simp) o e⟩
 item:=fun i s Q E hi st hQ=>bV6 st.1 st.2 (x:=its[i]) (by simp[hi]) fun h' hit' hs'=>hQ _ h' s.toks (by simp[hi]) ⟨hit',st.2.at fun o e=>(hs'.2 t hne).trans e⟩ hs'
 done:=fun s Q E st hE=>yP hh st.1 st.2 (by simp) hE
end PySem
namespace L2
open PySem PyProof.Rows
section
variable{X:Cx}{pins:List (Addr×Obj)}{σ:St}{H:Hp}{s:Shared}{h':Heap}{ch:List Addr}
theorem Inv.spun{t':Nat}{a:Addr}{o:HO}(I:Inv X pins σ H s)(hf:∀ b∈ch,aR5 X pins H b)(k:∀ b u,b∉ch->s.heap.get? b=some u->h'.get? b=some u)(hp:s.heap.objs.size<=a)
  (new:dM X.prog X.w (upd H a o) h' a o):Inv X pins σ (upd H a o) {s with heap:=h',toks:=t'}:=by
 have ha:H a=none:=I.hok.fresh hp
 have nch:∀ b u,H b=some u->b∉ch:=fun b u e z=>by rw[(hf b z).1]at e;cases e
 refine I.step (g':=s.gens) (d':=s.drawn) (ch:=ch) (fun b hb=>?_) (fun b u _ _ hc e _=>k b u hc e) (fun b u _ _ hc e _=>⟨u.slots,k b u hc e⟩) (fun b u _ e n=>?_) (fun b u hc e=>⟨u,k b u hc e⟩)
  (fun b xs e=>by rw[aF (aE e ha)];exact e) (fun b u v e=>by rw[aF (aE e ha)];exact e) (fun b ps e=>⟨#[],by rw[aF (aE e ha),e];simp⟩) (fun m hm=>?_) (fun b u e=>?_) I.bare
 ·obtain⟨f0,f1,f2,f3,f4,f5⟩:=hf b hb
  exact⟨f3,f1,f4,f5⟩
 ·rw[aF (Nat.ne_of_lt (Nat.lt_of_lt_of_le (Heap.lt_size e) hp))];exact n
 ·obtain⟨u,es,ep,ho,r⟩:=hm
  exact⟨u,es,ep,k _ u (fun z=>(hf _ z).2.1 rfl) ho,r⟩
 ·by_cases hb:b=a
  ·subst hb;rw[aG]at e;cases e;exact new
  ·rw[aF hb]at e
   refine(I.hok b u e).stay (fun c v hc q=>k c v ?_ q) (fun c q=>by rw[aF (aE q ha)];exact q) fun c xs q=>by rw[aF (aE q ha)];exact q
   rcases hc with z | z
   ·rw[z];exact nch b u e
   ·exact nch c _ z
theorem Inv.spun0{t':Nat}(I:Inv X pins σ H s)(hf:∀ b∈ch,aR5 X pins H b)(k:∀ b u,b∉ch->s.heap.get? b=some u->h'.get? b=some u):Inv X pins σ H {s with heap:=h',toks:=t'}:=by
 have nch:∀ b u,H b=some u->b∉ch:=fun b u e z=>by rw[(hf b z).1]at e;cases e
 refine I.step (g':=s.gens) (d':=s.drawn) (ch:=ch) (fun b hb=>?_) (fun b u _ _ hc e _=>k b u hc e) (fun b u _ _ hc e _=>⟨u.slots,k b u hc e⟩) (fun b u _ e n=>n) (fun b u hc e=>⟨u,k b u hc e⟩)
  (fun b xs e=>e) (fun b u v e=>e) (fun b ps e=>⟨#[],by rw[e];simp⟩) (fun m hm=>?_) (fun b u e=>?_) I.bare
 ·obtain⟨f0,f1,f2,f3,f4,f5⟩:=hf b hb
  exact⟨f3,f1,f4,f5⟩
 ·obtain⟨u,es,ep,ho,r⟩:=hm
  exact⟨u,es,ep,k _ u (fun z=>(hf _ z).2.1 rfl) ho,r⟩
 ·refine(I.hok b u e).stay (fun c v hc q=>k c v ?_ q) (fun c q=>q) fun c xs q=>q
  rcases hc with z | z
  ·rw[z];exact nch b u e
  ·exact nch c _ z
end
def dH7(K:PySem.W.Frag)(a:Addr):It:=
 ⟨fun i H=>∃ xs x,SqT K H a xs/\xs[i]? = some x,fun i H v H'=>∃ T x,v=.ref T/\H T=none/\H'=upd H T (.tup [.int i,x])/\∀ xs,SqT K H a xs->xs[i]? = some x,fun i H=>∃ xs,SqT K H a xs/\xs.length=i⟩
def dH8(K:PySem.W.Frag)(a:Addr):It:=
 ⟨fun i H=>∃ xs x,SqL K H a xs/\xs[i]? = some x,fun i H v H'=>∃ T x,v=.ref T/\H T=none/\H'=upd H T (.tup [.int i,x])/\∀ xs,SqL K H a xs->xs[i]? = some x,fun i H=>∃ xs,SqL K H a xs/\xs.length=i⟩
theorem aK8{P:Program}{w:World}{H:Hp}{h h2:Heap}{e it T:Addr}{i:Nat}{tk:Tok}{u:Value}{x:V}(hT:h.get? T=some {cls:=.type "tuple",data:=.seq #[.int i tk,u]})(hs:h2.get? T=h.get? T)(ru:eG x u):dM P w (upd H T (.tup [.int i,x])) h2 T (.tup [.int i,x]):=by
 have h2':=hs.trans hT
 exact⟨by show 2<=sizeLine;decide,[.int i tk,u],.cons ⟨tk,rfl⟩ (.cons ru .nil),⟨_,h2',rfl,_,rfl⟩,⟨_,h2',rfl⟩⟩
theorem aP1{P:Program}{w:World}{K:PySem.W.Frag}{elts:List Expr}{k:Nat}{pos:Pos}(a e it:Addr)(hei:e≠it) :
  Turn P w K (.Tuple elts k pos) (dH7 K a) [e,it] e (fun i h=>(∃ old,IsEnum h e it i old)/\h.IsTupleIter it a i) where
 mem:=by simp
 obj:=fun i h st b hb=>by
  obtain⟨⟨old,he⟩,o,ho,c,d⟩:=st
  rcases List.mem_cons.mp hb with z | hb
  ·subst z;exact⟨_,he,fun v z=>by cases z⟩
  ·rw[List.mem_singleton.mp hb];exact⟨o,ho,fun v z=>by rw[d]at z;cases z⟩
 keep:=fun i h h' st k=>by
  obtain⟨⟨old,he⟩,hi⟩:=st
  exact⟨⟨old,k e (by simp) _ he⟩,hi.at fun o q=>k it (by simp) o q⟩
 item:=by
  intro X hP hw hK hc i pins s σ H E I hf st hg
  subst hP hw hK
  obtain⟨⟨old,he⟩,hi⟩:=st
  obtain⟨xs,x,hq,hx⟩:=hg
  obtain⟨its,rv,p,hz⟩:=I.tuple hq
  obtain⟨u,hu,ru⟩:=rv.get hx
  have p':s.heap.IsTuple a its.toArray:=p
  have nai:a≠it:=fun z=>by
   obtain⟨o,h1,h2,_⟩:=p'
   obtain⟨o',h3,h4,_⟩:=id hi
   rw[z,h3]at h1;cases h1;rw[h2]at h4;injection h4 with q;exact absurd q (by decide)
  have nae:e≠a:=fun z=>by
   obtain⟨o,h1,h2,_⟩:=p'
   rw[← z,he]at h1;cases h1;have h2':Value.type "enumerate"=Value.type "tuple":=h2;injection h2' with q;exact absurd q (by decide)
  have hlt:i < its.toArray.size:=by
   have:=(List.getElem?_eq_some_iff.mp hu).1
   simpa using this
  refine wpAny_pyNext_enum_itemD (Draws.tup (A:=X.A.in1) (I.ok.hd hc) it a nai its.toArray) he ⟨hi,p'⟩ hlt hei (by simp[hei,nae]) fun y h1 tk hy ho hs' hT hsz hk=>?_
  obtain rfl:y=u:=by
   rw[List.getElem?_toArray,hu]at hy;exact(Option.some.inj hy).symm
  refine⟨_,rfl,wpAny_letOwnedTupleGo_enum ho fun h2 he2 hs2=>?_⟩
  have hTe:s.heap.objs.size≠e:=fun z=>absurd (Heap.lt_size he) (by rw[← z];exact Nat.lt_irrefl _)
  have ha:H s.heap.objs.size=none:=I.hok.fresh (Nat.le_refl _)
  refine⟨.ref s.heap.objs.size,upd H s.heap.objs.size (.tup [.int i,x]),?_,rfl,⟨_,x,rfl,ha,rfl,fun ys hys=>by rw[I.tuple_inj hys hq];exact hx⟩,⟨⟨_,he2⟩,hs'.1.at fun o q=>(hs2.2 it hei.symm).trans q⟩,fun b hb=>?_⟩
  ·exact I.spun (ch:=[e,it]) (t':=tk+1) hf (fun b u hb q=>(hs2.2 b fun z=>hb (by simp[z])).trans (hk b u (fun z=>hb (by simp[z])) (fun z=>hb (by simp[z])) q)) (Nat.le_refl _) (aK8 (e:=e) (it:=it) hT (hs2.2 _ hTe) ru)
  ·rw[aF (fun z=>?_)]
   ·exact(hf b hb).1
   ·obtain⟨o,ho⟩:∃ o,s.heap.get? b=some o:=by
     rcases List.mem_cons.mp hb with z | hb
     ·rw[z];exact⟨_,he⟩
     ·rw[List.mem_singleton.mp hb];exact hi.imp fun _ q=>q.1
    exact absurd (Heap.lt_size ho) (by rw[z];exact Nat.lt_irrefl _)
 done:=by
  intro X hP hw hK hc i pins s σ H E I hf st hg
  subst hP hw hK
  obtain⟨⟨old,he⟩,hi⟩:=st
  obtain⟨xs,hq,hx⟩:=hg
  obtain⟨its,rv,p,hz⟩:=I.tuple hq
  have p':s.heap.IsTuple a its.toArray:=p
  have nai:a≠it:=fun z=>by
   obtain⟨o,h1,h2,_⟩:=p'
   obtain⟨o',h3,h4,_⟩:=id hi
   rw[z,h3]at h1;cases h1;rw[h2]at h4;injection h4 with q;exact absurd q (by decide)
  have hl:its.toArray.size=i:=by rw[List.size_toArray,← rv.length];exact hx
  refine wpAny_pyNext_enum_endD (Draws.tup (A:=X.A.in1) (I.ok.hd hc) it a nai its.toArray) he ⟨by rw[hl];exact hi,p'⟩ fun h' hx'=>⟨rfl,I.spun0 (ch:=[e,it]) (t':=s.toks) hf fun b u hb q=>hx' b u (fun z=>hb (by simp[z])) q⟩
 self:=fun _ _ _ _ _ st h=>wpAny_pyIter_enum st.1.choose_spec h
theorem aP2{P:Program}{w:World}{K:PySem.W.Frag}{elts:List Expr}{k:Nat}{pos:Pos}(a e it:Addr)(hei:e≠it) :
  Turn P w K (.Tuple elts k pos) (dH8 K a) [e,it] e (fun i h=>(∃ old,IsEnum h e it i old)/\h.IsListIter it a i) where
 mem:=by simp
 obj:=fun i h st b hb=>by
  obtain⟨⟨old,he⟩,o,ho,c,d⟩:=st
  rcases List.mem_cons.mp hb with z | hb
  ·subst z;exact⟨_,he,fun v z=>by cases z⟩
  ·rw[List.mem_singleton.mp hb];exact⟨o,ho,fun v z=>by rw[d]at z;cases z⟩
 keep:=fun i h h' st k=>by
  obtain⟨⟨old,he⟩,hi⟩:=st
  exact⟨⟨old,k e (by simp) _ he⟩,hi.at fun o q=>k it (by simp) o q⟩
 item:=by
  intro X hP hw hK hc i pins s σ H E I hf st hg
  subst hP hw hK
  obtain⟨⟨old,he⟩,hi⟩:=st
  obtain⟨xs,x,hq,hx⟩:=hg
  obtain⟨its,rv,p,hz⟩:=I.list hq
  obtain⟨u,hu,ru⟩:=rv.get hx
  have p':s.heap.IsList a its.toArray:=p.isList
  have nai:a≠it:=fun z=>by
   obtain⟨o,h1,h2,_⟩:=p'
   obtain⟨o',h3,h4,_⟩:=id hi
   rw[z,h3]at h1;cases h1;rw[h2]at h4;injection h4 with q;exact absurd q (by decide)
  have nae:e≠a:=fun z=>by
   obtain⟨o,h1,h2,_⟩:=p'
   rw[← z,he]at h1;cases h1;have h2':Value.type "enumerate"=Value.type "list":=h2;injection h2' with q;exact absurd q (by decide)
  have hlt:i < its.toArray.size:=by
   have:=(List.getElem?_eq_some_iff.mp hu).1
   simpa using this
  refine wpAny_pyNext_enum_itemD (Draws.list (A:=X.A.in1) (I.ok.hd hc) it a nai its.toArray) he ⟨hi,p'⟩ hlt hei (by simp[hei,nae]) fun y h1 tk hy ho hs' hT hsz hk=>?_
  obtain rfl:y=u:=by
   rw[List.getElem?_toArray,hu]at hy;exact(Option.some.inj hy).symm
  refine⟨_,rfl,wpAny_letOwnedTupleGo_enum ho fun h2 he2 hs2=>?_⟩
  have hTe:s.heap.objs.size≠e:=fun z=>absurd (Heap.lt_size he) (by rw[← z];exact Nat.lt_irrefl _)
  have ha:H s.heap.objs.size=none:=I.hok.fresh (Nat.le_refl _)
  refine⟨.ref s.heap.objs.size,upd H s.heap.objs.size (.tup [.int i,x]),?_,rfl,⟨_,x,rfl,ha,rfl,fun ys hys=>by rw[I.list_inj hys hq];exact hx⟩,⟨⟨_,he2⟩,hs'.1.at fun o q=>(hs2.2 it hei.symm).trans q⟩,fun b hb=>?_⟩
  ·exact I.spun (ch:=[e,it]) (t':=tk+1) hf (fun b u hb q=>(hs2.2 b fun z=>hb (by simp[z])).trans (hk b u (fun z=>hb (by simp[z])) (fun z=>hb (by simp[z])) q)) (Nat.le_refl _) (aK8 (e:=e) (it:=it) hT (hs2.2 _ hTe) ru)
  ·rw[aF (fun z=>?_)]
   ·exact(hf b hb).1
   ·obtain⟨o,ho⟩:∃ o,s.heap.get? b=some o:=by
     rcases List.mem_cons.mp hb with z | hb
     ·rw[z];exact⟨_,he⟩
     ·rw[List.mem_singleton.mp hb];exact hi.imp fun _ q=>q.1
    exact absurd (Heap.lt_size ho) (by rw[z];exact Nat.lt_irrefl _)
 done:=by
  intro X hP hw hK hc i pins s σ H E I hf st hg
  subst hP hw hK
  obtain⟨⟨old,he⟩,hi⟩:=st
  obtain⟨xs,hq,hx⟩:=hg
  obtain⟨its,rv,p,hz⟩:=I.list hq
  have p':s.heap.IsList a its.toArray:=p.isList
  have nai:a≠it:=fun z=>by
   obtain⟨o,h1,h2,_⟩:=p'
   obtain⟨o',h3,h4,_⟩:=id hi
   rw[z,h3]at h1;cases h1;rw[h2]at h4;injection h4 with q;exact absurd q (by decide)
  have hl:its.toArray.size=i:=by rw[List.size_toArray,← rv.length];exact hx
  refine wpAny_pyNext_enum_endD (Draws.list (A:=X.A.in1) (I.ok.hd hc) it a nai its.toArray) he ⟨by rw[hl];exact hi,p'⟩ fun h' hx'=>⟨rfl,I.spun0 (ch:=[e,it]) (t':=s.toks) hf fun b u hb q=>hx' b u (fun z=>hb (by simp[z])) q⟩
 self:=fun _ _ _ _ _ st h=>wpAny_pyIter_enum st.1.choose_spec h
end L2
namespace PySem
open AutoSeq1 (wpAny_loadPart')
abbrev cY9(l:Addr):Obj:={cls:=.type "tuple_iterator",data:=.fields #[.ref l,.int 0 0]}
abbrev dH9(it:Addr):Obj:={cls:=.type "enumerate",data:=.fields #[.none,.bool false,.ref it,rawInt 0,.none,.none]}
theorem bV7(l:Addr)(its:Array Value)(n:Nat)(dct:Option Addr)(sl:Array (Option Value)) :
  Meets (Builtin.«enumerate.__new__» ⟨[.type "enumerate",.ref l],[]⟩) (fun _ R s=>s.heap.get? l=some {cls:=.type "tuple",dict:=dct,data:=.seq its n,slots:=sl} /\
   R (.ok (.ret (.ref (s.heap.push (cY9 l)).objs.size))) {s with heap:=(s.heap.push (cY9 l)).push (dH9 s.heap.objs.size)}):=
 .of_wp fun prog w A R s h=>by
  obtain⟨hp,g,d,tk,os⟩:=s;obtain⟨hl,h⟩:=h;have hsub:=sub_enumerate
  have hL:Heap.IsTuple (Shared.heap ⟨hp,g,d,tk,os⟩) l its:=⟨_,hl,rfl,n,rfl⟩
  wp_walk using wpAny_loadPart' hl
  refine wpAny_stack_any fun st=>wpAny_pure ?_;split
  ·rename_i c _ _ _ _ _
   cases (c==Value.type "enumerate")<;>(wp_walk using wpAny_loadPart' hl,wpAny_pyIter_tuple hL;exact⟨_,rfl,h⟩)
  ·wp_walk using wpAny_loadPart' hl,wpAny_pyIter_tuple hL;exact⟨_,rfl,h⟩
section
variable{prog:Program}{w:World}{A:Around}{E:Value->Shared->Prop}{s:Shared}
theorem aP3{l:Addr}{its:Array Value}{Q:Value->Shared->Prop}(hL:s.heap.IsTuple l its)
  (h:∀ h',IsEnum h' (s.heap.objs.size+1) s.heap.objs.size 0 .none->h'.IsTupleIter s.heap.objs.size l 0->h'.objs.size=s.heap.objs.size+2->(∀ b o,s.heap.get? b=some o->h'.get? b=some o)->Q (.ref (s.heap.objs.size+1)) {s with heap:=h'}) :
  wpAny (model prog w) A (call (.type "enumerate") [.ref l]) Q E s:=by
 obtain⟨⟨c,dct,dt,sl⟩,hl,hc,n,hd⟩:=hL
 have hc':c=.type "tuple":=hc
 have hd':dt=.seq its n:=hd
 subst hc' hd'
 refine callType_new F.called_enumerate (by decide) (F.typeCall_enumerate_1 _) (F.newCall_enumerate_1 _) (fun obj=>F.args_object_init_2 obj _) F.entry_enumerate_new (bV7 l its n dct sl) ⟨hl,?_⟩
 have hz:(s.heap.push (cY9 l)).objs.size=s.heap.objs.size+1:=Heap.size_push ..
 show _/\_;rw[hz]
 have he:IsEnum ((s.heap.push (cY9 l)).push (dH9 s.heap.objs.size)) (s.heap.objs.size+1) s.heap.objs.size 0 .none:=by
  have:=Heap.get?_push_size (s.heap.push (cY9 l)) (o:=dH9 s.heap.objs.size) rfl
  rw[hz]at this;exact this
 exact⟨⟨_,he,rfl⟩,h _ he ⟨_,Heap.get?_push_of_some _ (Heap.get?_push_size _ rfl),rfl,rfl⟩ (by rw[Heap.size_push,hz]) fun b o x=>Heap.get?_push_of_some _ (Heap.get?_push_of_some _ x)⟩
end
end PySem
namespace L2
open PySem PyProof.Rows
section
variable{X:Cx}
def cZ0(K:PySem.W.Frag)(ta:TA):TI:=fun σ H R=>ta σ H fun vs H1=>∃ p,vs=[.ref p]/\((∃ xs,eP H1 p=some (true,xs)/\R (dH8 K p) H1)\/∃ xs,eP H1 p=some (false,xs)/\R (dH7 K p) H1)
theorem cM7(K:PySem.W.Frag)(hK:X.K=K){elts:List Expr}{k:Nat}{pos':Pos}{a:Expr}{ta:TA}{p pos:Pos}(hg:Gl X "enumerate")(hm:X.mg "enumerate"=none)(hbt:bootBuiltins "enumerate"=some (.type "enumerate"))(ha:PA X [a] ta)(hs:starEach [a] X.env=[(false,eval a X.env)]:=by rfl):PI X (.Tuple elts k pos') (.Call (.Name "enumerate" p) [a] [] pos) (cZ0 K ta):=by
 subst hK
 intro pins s σ H R I h
 refine Call_ (kZ I hg hm hbt (PyProof.Rows.callWith_type1 (thn (ha pos pins s σ H _ I h) fun us s1 ⟨vs,H1,I1,r1,q1⟩=>?_) hs rfl))
 obtain⟨b,rfl,q1⟩:=q1
 obtain⟨u,rfl,ru⟩:=r1.one
 cases ru
 have new:∀ c,c∈[s1.heap.objs.size+1,s1.heap.objs.size]->s1.heap.objs.size<=c:=fun c hc=>by
  rcases List.mem_cons.mp hc with z | hc
  ·omega
  ·rw[List.mem_singleton.mp hc];exact Nat.le_refl _
 rcases q1 with⟨xs,hq,q⟩ | ⟨xs,hq,q⟩
 ·obtain⟨its,rv,p',hz⟩:=I1.list (eY hq)
  refine call_enumerate_list p'.isList fun h' he hi hsz hk=>wpAny_pyIter_enum he ?_
  exact⟨_,[s1.heap.objs.size+1,s1.heap.objs.size],_,_,H1,rfl,I1.kept (t':=s1.toks) hk,aP2 b _ _ (Nat.succ_ne_self _),⟨⟨_,he⟩,hi⟩,fun c hc=>I1.fpOk (new c hc) (I1.hok.fresh (new c hc)),q⟩
 ·obtain⟨its,rv,p',hz⟩:=I1.tuple (dS hq)
  refine aP3 (show s1.heap.IsTuple b its.toArray from p') fun h' he hi hsz hk=>wpAny_pyIter_enum he ?_
  exact⟨_,[s1.heap.objs.size+1,s1.heap.objs.size],_,_,H1,rfl,I1.kept (t':=s1.toks) hk,aP1 b _ _ (Nat.succ_ne_self _),⟨⟨_,he⟩,hi⟩,fun c hc=>I1.fpOk (new c hc) (I1.hok.fresh (new c hc)),q⟩
end
end L2
namespace Dv
open PySem L2 Mr
def dI0(H:Hp)(d:Option Addr):Option (Str×D)->Prop
 | some (n,y)=>∃ dx yv,d=some dx/\H dx=some (.xd [(n,yv)])/\Rp H y yv
 | none=>d=none
def XOk(K:PySem.W.Frag)(H:Hp)(c:Str)(f:Option (Str×D))(x:Value)(d:Option Addr):Prop:=
 ∃ (e C T:Addr),x=.ref e/\H e=some (exo e (.ref C) d (.ref T))/\xE K C=true/\PySem.W.nsIn K mainGlobals c=some (some (.ref C))/\dI0 H d f
inductive RX where
 | ok (r:Res) | ex (c:Str) (f:Option (Str×D))
abbrev cQ2:=List Sl->Option (RX×List Sl)
def dD5(len:Nat)(body:DS):cQ2:=fun as=>(body (ini len as)).bind fun o=>match o with
 | .nx σ=>some (.ok (.val .non),mB as σ)
 | .rt r σ=>(aX3 σ r).bind fun r'=>some (.ok r',mB as σ)
 | .ex c f σ=>some (.ex c f,mB as σ)
 | _=>none
def dN6(K:PySem.W.Frag)(as:List Sl)(vs:List V)(H:Hp)(Q:L2.VK)(E:XK)(as':List Sl):RX->Prop
 | .ok res=>∀ v H',PostOk as vs H as' H'->yF H H' res v->Q v H'
 | .ex c f=>∀ x d H',PostOk as vs H as' H'->XOk K H' c f x d->E x d H'
def dD6(K:PySem.W.Frag)(n:Nat)(run:cQ2):Sp:=fun vs H Q E=>∃ as r as',ArgOk H as vs/\as.length=n/\run as=some (r,as')/\dN6 K as vs H Q E as' r
section
variable{P:Program}{w:World}{K:PySem.W.Frag}{mg:Str->Option Value}{base:Heap}
theorem bV8{N:List Str}{as:List Sl}{vs:List V}{H:Hp}(ok:ArgOk H as vs)(hN:as.length<=N.length):StOk ⟨H,aX2 as vs⟩ H (ini N.length as) (L2.dJ N vs):=by
 refine⟨fun i s e=>?_,fun i j s t p n ei ej m m' e e'=>?_,fun i s p ei m=>?_,fun i s p ei m e=>?_,fun a o e _=>e,fun a e=>e,?_⟩
 ·obtain⟨v,e1,r⟩:=ok.rel i s (eL.mp e)
  exact⟨v,cY.mpr e1,r⟩
 ·exact ok.dis i j s t p n (eL.mp ei) (eL.mp ej) m m' (cY.mp e) (cY.mp e')
 ·exact absurd m (ok.own i s (eL.mp ei))
 ·exact⟨i,s,eL.mp ei,by rw[m];rfl,cY.mp e⟩
 ·unfold ini L2.dJ
  have:=ok.len
  simp;omega
theorem aE9{N:List Str}{as:List Sl}{vs:List V}{H:Hp}(ok:ArgOk H as vs){σ:Sg}{σV':St}{H':Hp}(ok':StOk ⟨H,aX2 as vs⟩ H' σ σV')(st':Step (ini N.length as) (L2.dJ N vs) H σ σV' H'):PostOk as vs H (mB as σ) H':=by
 have nl:∀ a,oC (ini N.length as) (L2.dJ N vs) a->aX2 as vs a:=fun a ⟨j,t,ej,m,ea⟩=>⟨j,t,eL.mp ej,m,cY.mp ea⟩
 refine⟨fun i a ei m=>?_,fun a o e n=>st'.fr a o e fun z=>n (nl a z),st'.dom⟩
 have hp:a.m=.par:=by
  have h0:=ok.own i a ei
  cases q:a.m with
  | par=>rfl
  | own=>exact absurd q h0
  | val=>rw[q]at m;cases m
  | lent=>rw[q]at m;cases m
 obtain⟨s',es,ms,_,ev⟩:=st'.fix i a (eL.mpr ei) (.inl hp)
 obtain⟨v,e1,r⟩:=ok'.rel i s' es
 obtain⟨v0,e0,_⟩:=ok.rel i a ei
 have:some (some v)=some (some v0):=by rw[← e1,ev];exact cY.mpr e0
 cases this
 refine⟨s',v,?_,ms,e0,r⟩
 rw[wG ei es,if_neg (by rw[hp];exact fun z=>nomatch z)]
theorem cZ1{H:Hp}{pr:Addr->Prop}{H':Hp}{σ:Sg}{σV':St}{r r':Res}{v:V}(ok':StOk ⟨H,pr⟩ H' σ σV')(r1:jK ⟨H,pr⟩ H' σ σV' r v)(e1:aX3 σ r=some r'):yF H H' r' v:=by
 cases r with
 | val d=>cases e1;exact r1
 | own d=>
   cases e1
   obtain⟨p,q1,q2,q3,q4⟩:=r1
   exact⟨p,q1,q4,q2⟩
 | slot i=>
   obtain⟨q1,s',q2⟩:=r1
   have e1':(match σ[i]? with | some (some s)=>if s.m=.own then some (Res.own s.d)else if s.m=.val then some (.val s.d)else none | _=>none)=some r':=e1
   rw[q2]at e1'
   dsimp only at e1'
   obtain⟨v',ev,rv⟩:=ok'.rel i s' q2
   rw[q1]at ev;cases ev
   split at e1'
   ·rename_i hm
    cases e1'
    obtain⟨p,rfl,ow⟩:=(cZ (by rw[hm];exact fun z=>nomatch z)).mp rv
    exact⟨p,rfl,ok'.own i s' p q2 hm q1,ow⟩
   ·split at e1'
    ·rename_i hm
     cases e1'
     obtain⟨m,d⟩:=s'
     cases hm
     exact rv
    ·cases e1'
theorem cM8{x qual:Str}{st:Stmt}{f:Addr}{fd:FuncData}{N ps:List Str}{k:Nat}(F:Fun K x qual st f fd)(S:FnScope N ps (aP st))(hNl:ps.length<=N.length)(body:DS)
  (hb:∀ (cdv:Value) (A:Around) (outer:List Env) (s:Shared) (H:Hp) (E:XK),Room k (A.deeper (PyProof.Rows.envOfC qual (aP st) s.heap.objs.size f cdv))->GSs ⟨XOk K,fun _=>E⟩ (zJ (CXo P w) P w K mg base N qual (aP st) f cdv A outer s H E) (jP st) body) :
  FnOk P w K mg base (CXo P w) (k+1) f fd ps (dD6 K ps.length (dD5 N.length body)):=by
 refine F.okX S (fun vs H Q E ⟨as,r,as',ok,hl,_⟩=>by rw[← ok.len];exact hl) fun cdv A outer s H vs Q E hr h=>?_
 obtain⟨as,r,as',ok,hl,hrun,kk⟩:=h
 obtain⟨o,eo,hrun⟩:=bind_some hrun
 refine⟨_,(hb cdv A outer s H E hr).to ⟨H,aX2 as vs⟩,ini N.length as,bV8 ok (by omega),o,eo,?_⟩
 cases o with
 | nx σ=>
   cases hrun
   exact fun σV' H' ok' st'=>kk .non H' (aE9 ok ok' st') .non
 | rt r1 σ=>
   obtain⟨r',e1,hrun⟩:=bind_some hrun
   cases hrun
   exact fun v σV' H' ok' q st'=>kk v H' (aE9 ok ok' st') (cZ1 ok' q e1)
 | ex c f σ=>
   cases hrun
   exact fun x d σV' H' ok' q st'=>kk x d H' (aE9 ok ok' st') q
 | bk σ=>cases hrun
 | ct σ=>cases hrun
end
section
variable{K:PySem.W.Frag}{H:Hp}{C fI:Addr}{E:XK}
theorem dN7{n:Int}{f:Str}(hn:n.natAbs.log2 < 1000)(hc:xE K C=true)(hx:xY K C fI bmV "ValueError.__new__"=true)(hf:PySem.W.findIn K (.ref C) f=some none)
  (hE:∀ (e:Addr) d (T:Addr) H',H e=none->lX H H'->H' e=some (exo e (.ref C) d (.ref T))->(∃ dx,d=some dx/\H' dx=some (.xd [(f,.int n)]))->E (.ref e) d H') :
  [V.int n].length<=1000/\∀ a1,H a1=none->spI f K [.ref a1,.int n] (upd H a1 (exo a1 (.ref C) none .none)) (fun v H2=>v=.non/\∃ (e C:Addr) (d:Option Addr),V.ref a1=V.ref e/\H2 e=some (exo e (.ref C) d .none)/\exR K C/\∀ T:Addr,E (.ref e) d (upd H2 e (exo e (.ref C) d (.ref T)))) E0:=
 ⟨by simp,fun a1 ha1=>⟨a1,C,fI,n,rfl,aG,hc,hx,hf,hn,fun dx hdx hne=>⟨rfl,a1,C,some dx,rfl,cW3 hne,.inl ⟨fI,hx⟩,fun T=>hE a1 _ T _ ha1 (aV7 ha1 (aV8 hne hdx)) aG ⟨dx,rfl,cJ2 hne⟩⟩⟩⟩
end
open Classical in
noncomputable def rS(c f:Str)(ra:DE):DS:=fun σ=>(ra σ).bind fun x=>match x.1 with
 | .val (.int n)=>if n.natAbs.log2 < 1000 then some (.ex c (some (f,.int n)) x.2)else none
 | _=>none
theorem yQ{X:Cx}{K:PySem.W.Frag}{st:Stmt}{E:XK}{c f:Str}{C fI:Addr}{ra:DE}(hc:xE K C=true)(hx:xY K C fI bmV "ValueError.__new__"=true)(hf:PySem.W.findIn K (.ref C) f=some none)(hns:PySem.W.nsIn K mainGlobals c=some (some (.ref C)))
  (h:∀ Γ,PS X st (aV1 K E (dG1 C (spI f K) E0 (dTA Γ (aC ra bD))))):GS ⟨XOk K,fun _=>E⟩ X st (rS c f ra):=.mk fun Γ=>psW (h Γ) fun D σV H ⟨σ,ok,o,e,k⟩=>by
 obtain⟨⟨x,σ1⟩,e1,e⟩:=bind_some e
 dsimp only at e
 split at e
 ·rename_i n
  split at e
  ·rename_i hn
   cases e
   refine⟨σ,ok,[.val (.int n)],σ1,?_,fun vs H1 ok1 r1 st1 _=>?_⟩
   ·show((_:Option _).bind _)=_
    rw[e1];rfl
   ·cases r1 with
    | cons r1 t _=>
      cases t
      cases r1
      refine dN7 hn hc hx hf fun e d T H' h1 h2 h3 ⟨dx,h4,h5⟩=>?_
      exact k (.ref e) d σV H' (ok1.same h2) ⟨e,C,T,rfl,h3,hc,hns,dx,.int n,h4,h5,.int n⟩ (st1.trans (.same h2))
  ·cases e
 ·cases e
theorem rT{σ:Sg}{c f:Str}{ra:DE}{K:Out->Prop}:RS (rS c f ra) σ K=RE ra σ fun x σ1=>OK1 (match x with | .val (.int n)=>some n | _=>none) fun n=>n.natAbs.log2 < 1000/\K (.ex c (some (f,.int n)) σ1):=by
 unfold RS RE rS
 simp only[aQ]
 congr 1
 funext x
 obtain⟨x,σ1⟩:=x
 cases x with
 | val d=>
   cases d with
   | int n=>show OK1 (if _ then _ else none) K=_;rw[bQ];rfl
   | _=>rfl
 | _=>rfl
section
variable{K:PySem.W.Frag}{H:Hp}{C fI:Addr}{E:XK}
end
end Dv
namespace Dv
open PySem L2
def rV(n:Nat):List D->List D
 | []=>[]
 | d::r=>.tup [.int (n:Int),d]::rV (n+1) r
theorem gM:∀ (n:Nat) (l:List D),(rV n l).length=l.length
 | _,[]=>rfl
 | n,_::r=>by show(rV (n+1) r).length+1=r.length+1;rw[gM]
theorem iB:∀ {n:Nat} {l:List D} {i:Nat} {d:D},(rV n l)[i]? = some d->∃ y,l[i]? = some y/\d=.tup [.int ((n+i:Nat):Int),y]
 | _,[],_,_,h=>by simp[rV]at h
 | n,y::r,0,d,h=>by
   simp[rV]at h
   exact⟨y,rfl,by rw[← h];rfl⟩
 | n,y::r,i+1,d,h=>by
   obtain⟨z,e,q⟩:=iB (n:=n+1) (l:=r) (i:=i) (d:=d) (by simpa[rV]using h)
   exact⟨z,by simpa using e,by rw[q,show n+1+i=n+(i+1) by omega]⟩
theorem bK5{K:PySem.W.Frag}{p:Addr}{xs:List V}{l:List D}:ItD (dH8 K p) (rV 0 l) (fun H=>SqL K H p xs/\Rps H l xs) where
 go:=fun H i d ⟨h,r⟩ e=>by
  obtain⟨y,ey,_⟩:=iB e
  obtain⟨x,ex,_⟩:=r.get ey
  exact⟨xs,x,h,ex⟩
 yld:=fun H i d v H' ⟨h,r⟩ e ⟨T,x,ev,hT,eH,hx⟩=>by
  obtain⟨y,ey,rfl⟩:=iB e
  obtain⟨x',ex,rx⟩:=r.get ey
  have:=hx xs h
  rw[ex]at this
  cases this
  subst ev eH
  refine⟨bR hT,.tup aG (.cons ?_ (.cons (rx.mono (Ext.same (bR hT))) .nil))⟩
  rw[Nat.zero_add]
  exact .int _
 stop:=fun H ⟨h,r⟩=>⟨xs,h,by rw[gM,r.length]⟩
theorem bK6{K:PySem.W.Frag}{p:Addr}{xs:List V}{l:List D}:ItD (dH7 K p) (rV 0 l) (fun H=>SqT K H p xs/\Rps H l xs) where
 go:=fun H i d ⟨h,r⟩ e=>by
  obtain⟨y,ey,_⟩:=iB e
  obtain⟨x,ex,_⟩:=r.get ey
  exact⟨xs,x,h,ex⟩
 yld:=fun H i d v H' ⟨h,r⟩ e ⟨T,x,ev,hT,eH,hx⟩=>by
  obtain⟨y,ey,rfl⟩:=iB e
  obtain⟨x',ex,rx⟩:=r.get ey
  have:=hx xs h
  rw[ex]at this
  cases this
  subst ev eH
  refine⟨bR hT,.tup aG (.cons ?_ (.cons (rx.mono (Ext.same (bR hT))) .nil))⟩
  rw[Nat.zero_add]
  exact .int _
 stop:=fun H ⟨h,r⟩=>⟨xs,h,by rw[gM,r.length]⟩
def dI1:D->Option (List D)
 | .lst l=>some l
 | .tup l=>some l
 | _=>none
def bV9(r:DE):DI:=fun σ=>(r σ).bind fun x=>(rd x.2 x.1).bind fun d=>(dI1 d).bind fun l=>some (rV 0 l,(match x.1 with | .slot i=>some i | _=>none),x.2)
theorem cM9{X:Cx}{tg e:Expr}{r:DE}(K:PySem.W.Frag)(h:∀ Γ,PI X tg e (cZ0 K (dTA Γ (aC r bD)))):GI X tg e (bV9 r):=.mk fun Γ=>piW (h Γ) fun σV H R ⟨σ,ok,items,l,σ1,e,k⟩=>by
 obtain⟨⟨x,σ2⟩,e1,e⟩:=bind_some e
 obtain⟨d,e2,e⟩:=bind_some e
 obtain⟨its,e3,e⟩:=bind_some e
 cases e
 refine⟨σ,ok,[x],σ2,?_,fun vs H1 ok1 r1 st1 f1=>?_⟩
 ·show((_:Option _).bind _)=_
  rw[e1];rfl
 cases r1 with
 | cons r1 t _=>
   cases t
   have vw:=r1.vw ok1 e2
   cases d with
   | lst l'=>
     cases e3
     obtain⟨p,xs,rfl,hq,hr⟩:=jE vw
     refine⟨p,rfl,.inl ⟨xs,hq,k _ H1 _ ok1 st1 (bK5 (xs:=xs)) fun σ3 σV3 H3 st3=>?_⟩⟩
     obtain⟨h1,h2⟩:=rH ok1 r1 e2 (items:=its) rfl vw p true xs rfl hq hr σ3 σV3 H3 st3
     exact⟨eY h1,h2⟩
   | tup l'=>
     cases e3
     obtain⟨p,xs,rfl,hq,hr⟩:=fY vw
     refine⟨p,rfl,.inr ⟨xs,cJ hq,k _ H1 _ ok1 st1 (bK6 (xs:=xs)) fun σ3 σV3 H3 st3=>?_⟩⟩
     obtain⟨h1,h2⟩:=rH ok1 r1 e2 (items:=its) rfl vw p false xs rfl (cJ hq) hr σ3 σV3 H3 st3
     exact⟨dS h1,h2⟩
   | _=>cases e3
theorem aF0{σ:Sg}{a:DE}{K:List D->Option Nat->Sg->Prop}:RI (bV9 a) σ K=RE a σ fun x σ1=>RD σ1 x fun d=>OK1 (dI1 d) fun l=>K (rV 0 l) (match x with | .slot i=>some i | _=>none) σ1:=by
 unfold RI RE RD bV9;simp only[aQ,bW];try rfl
end Dv
namespace Mr
open PySem L2
def mD(s:Stmt)(i:Nat):Stmt:=match s with
 | .ClassDef _ _ _ b _ _ _ _ _ _ _=>b.getD i (.Pass ⟨0,0,0,0⟩)
 | _=>.Pass ⟨0,0,0,0⟩
def top(i:Nat):Stmt:=PySem.Challenge.pw_mostrows_k17_questions_let_by_and_refuse.main.body.getD i (.Pass ⟨0,0,0,0⟩)
abbrev yR:Stmt:=mD (top 5) 0
abbrev oZ:Stmt:=mD (top 2) 0
abbrev pA:Stmt:=mD (top 4) 0
abbrev yS:Stmt:=top 21
abbrev tS:Stmt:=top 22
abbrev rW:Stmt:=top 24
abbrev rX:Stmt:=top 23
abbrev gN:Stmt:=top 25
abbrev jF:Stmt:=top 26
abbrev jG:Stmt:=top 27
abbrev iC:Stmt:=top 28
abbrev lD:Stmt:=top 29
abbrev yT:Stmt:=top 9
abbrev gO:Stmt:=top 10
abbrev jH:Stmt:=top 17
abbrev tT:Stmt:=top 15
abbrev pB:Stmt:=top 16
abbrev iD:Stmt:=top 18
abbrev kH:Stmt:=mD (top 3) 0
abbrev cD1:Stmt:=top 19
abbrev nE:Stmt:=top 34
abbrev nF:Stmt:=top 30
abbrev yU:Stmt:=top 35
abbrev rY:Stmt:=top 31
abbrev rZ:Stmt:=top 36
abbrev iG:Stmt:=top 32
abbrev nG:Stmt:=top 33
abbrev cZ2:Stmt:=top 37
structure Adr where
 BadHouse:Addr
 BadQuestion:Addr
 BadTable:Addr
 NoRow:Addr
 RowsError:Addr
 i_NoRow:Addr
 fd_i_NoRow:FuncData
 i_BadTable:Addr
 fd_i_BadTable:FuncData
 i_BadHouse:Addr
 fd_i_BadHouse:FuncData
 law_box:Addr
 fd_law_box:FuncData
 law_take:Addr
 fd_law_take:FuncData
 law_names:Addr
 fd_law_names:FuncData
 law_order:Addr
 fd_law_order:FuncData
 law_some_columns:Addr
 fd_law_some_columns:FuncData
 law_any_tables:Addr
 fd_law_any_tables:FuncData
 law_ear_tables:Addr
 fd_law_ear_tables:FuncData
 law_ring_tables:Addr
 fd_law_ring_tables:FuncData
 law_question:Addr
 fd_law_question:FuncData
 is_name:Addr
 fd_is_name:FuncData
 are_unlike_names:Addr
 fd_are_unlike_names:FuncData
 is_right_alone:Addr
 fd_is_right_alone:FuncData
 names_of:Addr
 fd_names_of:FuncData
 columns_of:Addr
 fd_columns_of:FuncData
 is_right_behind:Addr
 fd_is_right_behind:FuncData
 i_BadQuestion:Addr
 fd_i_BadQuestion:FuncData
 look:Addr
 fd_look:FuncData
 law_is_name:Addr
 fd_law_is_name:FuncData
 law_columns:Addr
 fd_law_columns:FuncData
 law_due:Addr
 fd_law_due:FuncData
 law_whole:Addr
 fd_law_whole:FuncData
 law_right:Addr
 fd_law_right:FuncData
 law_bad_columns:Addr
 fd_law_bad_columns:FuncData
 law_changed:Addr
 fd_law_changed:FuncData
 law:Addr
 fd_law:FuncData
structure Txt(K:PySem.W.Frag)(mg:Str->Option Value)(a:Adr):Prop where
 m_BadHouse:mg "BadHouse"=some (.ref a.BadHouse)
 n_BadHouse:PySem.W.nsIn K mainGlobals "BadHouse"=some (some (.ref a.BadHouse))
 e_BadHouse:xE K a.BadHouse=true
 kp_BadHouse:PySem.W.keepIn K (.ref a.BadHouse)=true
 ty_BadHouse:PySem.W.typeIn K (.ref a.BadHouse)=some (.type "type")
 x_BadHouse:xY K a.BadHouse a.i_BadHouse bmV "ValueError.__new__"=true
 fn_BadHouse:PySem.W.isFn K (.ref a.i_BadHouse)=true
 m_BadQuestion:mg "BadQuestion"=some (.ref a.BadQuestion)
 n_BadQuestion:PySem.W.nsIn K mainGlobals "BadQuestion"=some (some (.ref a.BadQuestion))
 e_BadQuestion:xE K a.BadQuestion=true
 kp_BadQuestion:PySem.W.keepIn K (.ref a.BadQuestion)=true
 ty_BadQuestion:PySem.W.typeIn K (.ref a.BadQuestion)=some (.type "type")
 x_BadQuestion:xY K a.BadQuestion a.i_BadQuestion bmV "ValueError.__new__"=true
 fn_BadQuestion:PySem.W.isFn K (.ref a.i_BadQuestion)=true
 m_BadTable:mg "BadTable"=some (.ref a.BadTable)
 n_BadTable:PySem.W.nsIn K mainGlobals "BadTable"=some (some (.ref a.BadTable))
 e_BadTable:xE K a.BadTable=true
 kp_BadTable:PySem.W.keepIn K (.ref a.BadTable)=true
 ty_BadTable:PySem.W.typeIn K (.ref a.BadTable)=some (.type "type")
 x_BadTable:xY K a.BadTable a.i_BadTable bmV "ValueError.__new__"=true
 fn_BadTable:PySem.W.isFn K (.ref a.i_BadTable)=true
 m_NoRow:mg "NoRow"=some (.ref a.NoRow)
 n_NoRow:PySem.W.nsIn K mainGlobals "NoRow"=some (some (.ref a.NoRow))
 e_NoRow:xE K a.NoRow=true
 kp_NoRow:PySem.W.keepIn K (.ref a.NoRow)=true
 ty_NoRow:PySem.W.typeIn K (.ref a.NoRow)=some (.type "type")
 x_NoRow:xY K a.NoRow a.i_NoRow bmV "ValueError.__new__"=true
 fn_NoRow:PySem.W.isFn K (.ref a.i_NoRow)=true
 m_RowsError:mg "RowsError"=some (.ref a.RowsError)
 n_RowsError:PySem.W.nsIn K mainGlobals "RowsError"=some (some (.ref a.RowsError))
 e_RowsError:xE K a.RowsError=true
 kp_RowsError:PySem.W.keepIn K (.ref a.RowsError)=true
 ty_RowsError:PySem.W.typeIn K (.ref a.RowsError)=some (.type "type")
 bi_RowsError:vR K a.RowsError=true
 xb_RowsError:PySem.W.excIn K a.RowsError bmV "ValueError.__new__"=true
 na_BadQuestion:PySem.W.findIn K (.ref a.BadQuestion) "at"=some none
 ca_BadQuestion:gU K a.BadQuestion (.ref a.BadQuestion)=some true
 k1_BadQuestion:PySem.W.kitOne K (.ref a.BadQuestion) (.ref a.RowsError)=some true
 k2_BadQuestion:PySem.W.kitOne K (.ref a.BadQuestion) (.type "ValueError")=some true
 k3_BadQuestion:PySem.W.kitAny K (.ref a.BadQuestion) [.ref a.BadHouse,.ref a.BadTable,.ref a.NoRow]=some false
 F_i_NoRow:Fun K "__init__" "NoRow.__init__" yR a.i_NoRow a.fd_i_NoRow
 F_i_BadTable:Fun K "__init__" "BadTable.__init__" oZ a.i_BadTable a.fd_i_BadTable
 F_i_BadHouse:Fun K "__init__" "BadHouse.__init__" pA a.i_BadHouse a.fd_i_BadHouse
 m_law_box:mg "_law_box"=some (.ref a.law_box)
 F_law_box:Fun K "_law_box" "_law_box" yS a.law_box a.fd_law_box
 m_law_take:mg "_law_take"=some (.ref a.law_take)
 F_law_take:Fun K "_law_take" "_law_take" tS a.law_take a.fd_law_take
 m_law_names:mg "_law_names"=some (.ref a.law_names)
 F_law_names:Fun K "_law_names" "_law_names" rW a.law_names a.fd_law_names
 m_law_order:mg "_law_order"=some (.ref a.law_order)
 F_law_order:Fun K "_law_order" "_law_order" rX a.law_order a.fd_law_order
 m_law_some_columns:mg "_law_some_columns"=some (.ref a.law_some_columns)
 F_law_some_columns:Fun K "_law_some_columns" "_law_some_columns" gN a.law_some_columns a.fd_law_some_columns
 m_law_any_tables:mg "_law_any_tables"=some (.ref a.law_any_tables)
 F_law_any_tables:Fun K "_law_any_tables" "_law_any_tables" jF a.law_any_tables a.fd_law_any_tables
 m_law_ear_tables:mg "_law_ear_tables"=some (.ref a.law_ear_tables)
 F_law_ear_tables:Fun K "_law_ear_tables" "_law_ear_tables" jG a.law_ear_tables a.fd_law_ear_tables
 m_law_ring_tables:mg "_law_ring_tables"=some (.ref a.law_ring_tables)
 F_law_ring_tables:Fun K "_law_ring_tables" "_law_ring_tables" iC a.law_ring_tables a.fd_law_ring_tables
 m_law_question:mg "_law_question"=some (.ref a.law_question)
 F_law_question:Fun K "_law_question" "_law_question" lD a.law_question a.fd_law_question
 m_is_name:mg "is_name"=some (.ref a.is_name)
 F_is_name:Fun K "is_name" "is_name" yT a.is_name a.fd_is_name
 m_are_unlike_names:mg "are_unlike_names"=some (.ref a.are_unlike_names)
 F_are_unlike_names:Fun K "are_unlike_names" "are_unlike_names" gO a.are_unlike_names a.fd_are_unlike_names
 m_is_right_alone:mg "is_right_alone"=some (.ref a.is_right_alone)
 F_is_right_alone:Fun K "is_right_alone" "is_right_alone" jH a.is_right_alone a.fd_is_right_alone
 m_names_of:mg "names_of"=some (.ref a.names_of)
 F_names_of:Fun K "names_of" "names_of" tT a.names_of a.fd_names_of
 m_columns_of:mg "columns_of"=some (.ref a.columns_of)
 F_columns_of:Fun K "columns_of" "columns_of" pB a.columns_of a.fd_columns_of
 m_is_right_behind:mg "is_right_behind"=some (.ref a.is_right_behind)
 F_is_right_behind:Fun K "is_right_behind" "is_right_behind" iD a.is_right_behind a.fd_is_right_behind
 F_i_BadQuestion:Fun K "__init__" "BadQuestion.__init__" kH a.i_BadQuestion a.fd_i_BadQuestion
 m_look:mg "look"=some (.ref a.look)
 F_look:Fun K "look" "look" cD1 a.look a.fd_look
 m_law_is_name:mg "_law_is_name"=some (.ref a.law_is_name)
 F_law_is_name:Fun K "_law_is_name" "_law_is_name" nE a.law_is_name a.fd_law_is_name
 m_law_columns:mg "_law_columns"=some (.ref a.law_columns)
 F_law_columns:Fun K "_law_columns" "_law_columns" nF a.law_columns a.fd_law_columns
 m_law_due:mg "_law_due"=some (.ref a.law_due)
 F_law_due:Fun K "_law_due" "_law_due" yU a.law_due a.fd_law_due
 m_law_whole:mg "_law_whole"=some (.ref a.law_whole)
 F_law_whole:Fun K "_law_whole" "_law_whole" rY a.law_whole a.fd_law_whole
 m_law_right:mg "_law_right"=some (.ref a.law_right)
 F_law_right:Fun K "_law_right" "_law_right" rZ a.law_right a.fd_law_right
 m_law_bad_columns:mg "_law_bad_columns"=some (.ref a.law_bad_columns)
 F_law_bad_columns:Fun K "_law_bad_columns" "_law_bad_columns" iG a.law_bad_columns a.fd_law_bad_columns
 m_law_changed:mg "_law_changed"=some (.ref a.law_changed)
 F_law_changed:Fun K "_law_changed" "_law_changed" nG a.law_changed a.fd_law_changed
 m_law:mg "law"=some (.ref a.law)
 F_law:Fun K "law" "law" cZ2 a.law a.fd_law
 n_ValueError:mg "ValueError"=none
 n_all:mg "all"=none
 n_bool:mg "bool"=none
 n_enumerate:mg "enumerate"=none
 n_int:mg "int"=none
 n_isinstance:mg "isinstance"=none
 n_len:mg "len"=none
 n_list:mg "list"=none
 n_min:mg "min"=none
 n_range:mg "range"=none
 n_set:mg "set"=none
 n_tuple:mg "tuple"=none
 n_zip:mg "zip"=none
 c_LETTERS:∃ t,mg "LETTERS"=some (.str "abcdefghijklmnopqrstuvwxyz" t)
 c_LONGEST:∃ t,mg "LONGEST"=some (.int 6 t)
 c_MOST_COLUMNS:∃ t,mg "MOST_COLUMNS"=some (.int 6 t)
 c_MOST_TABLES:∃ t,mg "MOST_TABLES"=some (.int 6 t)
 c_WIDEST:∃ t,mg "WIDEST"=some (.int 4 t)
theorem sA:bootBuiltins "ValueError"=some (.type "ValueError"):=by decide +kernel
theorem wM:bootBuiltins "all"=some (.builtin "all"):=by decide +kernel
theorem bK7:bootBuiltins "bool"=some (.type "bool"):=by decide +kernel
theorem sT:bootBuiltins "enumerate"=some (.type "enumerate"):=by decide +kernel
theorem qN:bootBuiltins "int"=some (.type "int"):=by decide +kernel
theorem dE:bootBuiltins "isinstance"=some (.builtin "isinstance"):=by decide +kernel
theorem aX:bootBuiltins "len"=some (.builtin "len"):=by decide +kernel
theorem nI:bootBuiltins "list"=some (.type "list"):=by decide +kernel
theorem wN:bootBuiltins "min"=some (.builtin "min"):=by decide +kernel
theorem aK9:bootBuiltins "set"=some (.type "set"):=by decide +kernel
theorem iH:bootBuiltins "tuple"=some (.type "tuple"):=by decide +kernel
theorem bW0:bootBuiltins "zip"=some (.type "zip"):=by decide +kernel
theorem tU:FnScope ["self"] ["self"] (aP yR):=⟨rfl,rfl,rfl,by decide +kernel,rfl,by decide +kernel,by decide +kernel⟩
theorem nJ:FnScope ["self","at"] ["self","at"] (aP oZ):=⟨rfl,rfl,rfl,by decide +kernel,rfl,by decide +kernel,by decide +kernel⟩
theorem nK:FnScope ["self","table"] ["self","table"] (aP pA):=⟨rfl,rfl,rfl,by decide +kernel,rfl,by decide +kernel,by decide +kernel⟩
theorem tV:FnScope ["_law_script","_law_k","_law_cell","_law_seed"] ["_law_script","_law_k"] (aP yS):=⟨rfl,rfl,rfl,by decide +kernel,rfl,by decide +kernel,by decide +kernel⟩
theorem jA:FnScope ["_law_box_here","_law_many","_law_digit","_law_one"] ["_law_box_here","_law_many"] (aP tS):=⟨rfl,rfl,rfl,by decide +kernel,rfl,by decide +kernel,by decide +kernel⟩
theorem pC:FnScope ["_law_box_here","_law_many","_law_letters","_law_stem","_law_at","_law_first","_law_form","_law_x","_law_y","_law_z","_law_some","_law_found","_law_k","_law_word","_law_own"] ["_law_box_here","_law_many"] (aP rW):=⟨rfl,rfl,rfl,by decide +kernel,rfl,by decide +kernel,by decide +kernel⟩
theorem pD:FnScope ["_law_box_here","_law_things","_law_left","_law_found"] ["_law_box_here","_law_things"] (aP rX):=⟨rfl,rfl,rfl,by decide +kernel,rfl,by decide +kernel,by decide +kernel⟩
theorem gD:FnScope ["_law_box_here","_law_names_here","_law_many"] ["_law_box_here","_law_names_here","_law_many"] (aP gN):=⟨rfl,rfl,rfl,by decide +kernel,rfl,by decide +kernel,by decide +kernel⟩
theorem iI:FnScope ["_law_box_here","_law_names_here","_law_pool","_law_found","_law_k"] ["_law_box_here","_law_names_here"] (aP jF):=⟨rfl,rfl,rfl,by decide +kernel,rfl,by decide +kernel,by decide +kernel⟩
theorem iJ:FnScope ["_law_box_here","_law_names_here","_law_left","_law_found","_law_k","_law_own","_law_one","_law_j"] ["_law_box_here","_law_names_here"] (aP jG):=⟨rfl,rfl,rfl,by decide +kernel,rfl,by decide +kernel,by decide +kernel⟩
theorem gP:FnScope ["_law_box_here","_law_names_here","_law_many","_law_ring","_law_sets","_law_one","_law_own","_law_k","_law_column"] ["_law_box_here","_law_names_here"] (aP iC):=⟨rfl,rfl,rfl,by decide +kernel,rfl,by decide +kernel,by decide +kernel⟩
theorem kI:FnScope ["_law_box_here","_law_kind","_law_columns_here","_law_tables","_law_way","_law_sets"] ["_law_box_here","_law_kind"] (aP lD):=⟨rfl,rfl,rfl,by decide +kernel,rfl,by decide +kernel,by decide +kernel⟩
theorem tW:FnScope ["text","sign"] ["text"] (aP yT):=⟨rfl,rfl,rfl,by decide +kernel,rfl,by decide +kernel,by decide +kernel⟩
theorem gF:FnScope ["texts","text"] ["texts"] (aP gO):=⟨rfl,rfl,rfl,by decide +kernel,rfl,by decide +kernel,by decide +kernel⟩
theorem iK:FnScope ["name","columns"] ["name","columns"] (aP jH):=⟨rfl,rfl,rfl,by decide +kernel,rfl,by decide +kernel,by decide +kernel⟩
theorem sC:FnScope ["question","name","columns"] ["question"] (aP tT):=⟨rfl,rfl,rfl,by decide +kernel,rfl,by decide +kernel,by decide +kernel⟩
theorem nL:FnScope ["question","found","name","columns","column"] ["question"] (aP pB):=⟨rfl,rfl,rfl,by decide +kernel,rfl,by decide +kernel,by decide +kernel⟩
theorem gQ:FnScope ["ahead","name","columns"] ["ahead","name","columns"] (aP iD):=⟨rfl,rfl,rfl,by decide +kernel,rfl,by decide +kernel,by decide +kernel⟩
theorem jI:FnScope ["self","at"] ["self","at"] (aP kH):=⟨rfl,rfl,rfl,by decide +kernel,rfl,by decide +kernel,by decide +kernel⟩
theorem bK8:FnScope ["question","at","pair"] ["question"] (aP cD1):=⟨rfl,rfl,rfl,by decide +kernel,rfl,by decide +kernel,by decide +kernel⟩
theorem lF:FnScope ["_law_text","_law_small","_law_sign"] ["_law_text"] (aP nE):=⟨rfl,rfl,rfl,by decide +kernel,rfl,by decide +kernel,by decide +kernel⟩
theorem lG:FnScope ["_law_question_here","_law_found","_law_kt","_law_own","_law_column"] ["_law_question_here"] (aP nF):=⟨rfl,rfl,rfl,by decide +kernel,rfl,by decide +kernel,by decide +kernel⟩
theorem tX:FnScope ["_law_question_here","_law_at","_law_name","_law_own","_law_heads","_law_one","_law_text"] ["_law_question_here"] (aP yU):=⟨rfl,rfl,rfl,by decide +kernel,rfl,by decide +kernel,by decide +kernel⟩
theorem pE:FnScope ["_law_found"] ["_law_found"] (aP rY):=⟨rfl,rfl,rfl,by decide +kernel,rfl,by decide +kernel,by decide +kernel⟩
theorem pF:FnScope ["_law_question_here","_law_refused","_law_found","e","_law_own","_law_due_here"] ["_law_question_here"] (aP rZ):=⟨rfl,rfl,rfl,by decide +kernel,rfl,by decide +kernel,by decide +kernel⟩
theorem gR:FnScope ["_law_box_here","_law_own","_law_form","_law_at","_law_bad"] ["_law_box_here","_law_own"] (aP iG):=⟨rfl,rfl,rfl,by decide +kernel,rfl,by decide +kernel,by decide +kernel⟩
theorem lH:FnScope ["_law_box_here","_law_question_here","_law_at","_law_form","_law_own","_law_name"] ["_law_box_here","_law_question_here"] (aP nG):=⟨rfl,rfl,rfl,by decide +kernel,rfl,by decide +kernel,by decide +kernel⟩
theorem cD2:FnScope ["_law_script","_law_box_here","_law_question_here","_law_k","_law_other","_law_turn"] ["_law_script"] (aP cZ2):=⟨rfl,rfl,rfl,by decide +kernel,rfl,by decide +kernel,by decide +kernel⟩
section
variable{P:Program}{w:World}{K:PySem.W.Frag}{mg:Str->Option Value}{base:Heap}{a:Adr}
theorem yV(T:Txt K mg a):dR K a.fd_law_box ["_law_script","_law_k"] []:=T.F_law_box.binds (ps:=["_law_script","_law_k"]) fun _ _ _ _ _ _ us hl=>match us,hl with | [_,_],_=>rfl
theorem aL(T:Txt K mg a):dR K a.fd_law_take ["_law_box_here","_law_many"] []:=T.F_law_take.binds (ps:=["_law_box_here","_law_many"]) fun _ _ _ _ _ _ us hl=>match us,hl with | [_,_],_=>rfl
theorem sD(T:Txt K mg a):dR K a.fd_law_names ["_law_box_here","_law_many"] []:=T.F_law_names.binds (ps:=["_law_box_here","_law_many"]) fun _ _ _ _ _ _ us hl=>match us,hl with | [_,_],_=>rfl
theorem gG(T:Txt K mg a):dR K a.fd_law_order ["_law_box_here","_law_things"] []:=T.F_law_order.binds (ps:=["_law_box_here","_law_things"]) fun _ _ _ _ _ _ us hl=>match us,hl with | [_,_],_=>rfl
theorem eM(T:Txt K mg a):dR K a.fd_law_some_columns ["_law_box_here","_law_names_here","_law_many"] []:=T.F_law_some_columns.binds (ps:=["_law_box_here","_law_names_here","_law_many"]) fun _ _ _ _ _ _ us hl=>match us,hl with | [_,_,_],_=>rfl
theorem pP(T:Txt K mg a):dR K a.fd_law_any_tables ["_law_box_here","_law_names_here"] []:=T.F_law_any_tables.binds (ps:=["_law_box_here","_law_names_here"]) fun _ _ _ _ _ _ us hl=>match us,hl with | [_,_],_=>rfl
theorem pQ(T:Txt K mg a):dR K a.fd_law_ear_tables ["_law_box_here","_law_names_here"] []:=T.F_law_ear_tables.binds (ps:=["_law_box_here","_law_names_here"]) fun _ _ _ _ _ _ us hl=>match us,hl with | [_,_],_=>rfl
theorem oF(T:Txt K mg a):dR K a.fd_law_ring_tables ["_law_box_here","_law_names_here"] []:=T.F_law_ring_tables.binds (ps:=["_law_box_here","_law_names_here"]) fun _ _ _ _ _ _ us hl=>match us,hl with | [_,_],_=>rfl
theorem sU(T:Txt K mg a):dR K a.fd_law_question ["_law_box_here","_law_kind"] []:=T.F_law_question.binds (ps:=["_law_box_here","_law_kind"]) fun _ _ _ _ _ _ us hl=>match us,hl with | [_,_],_=>rfl
theorem yW(T:Txt K mg a):dR K a.fd_is_name ["text"] []:=T.F_is_name.binds (ps:=["text"]) fun _ _ _ _ _ _ us hl=>match us,hl with | [_],_=>rfl
theorem nM(T:Txt K mg a):dR K a.fd_are_unlike_names ["texts"] []:=T.F_are_unlike_names.binds (ps:=["texts"]) fun _ _ _ _ _ _ us hl=>match us,hl with | [_],_=>rfl
theorem pR(T:Txt K mg a):dR K a.fd_is_right_alone ["name","columns"] []:=T.F_is_right_alone.binds (ps:=["name","columns"]) fun _ _ _ _ _ _ us hl=>match us,hl with | [_,_],_=>rfl
theorem aP4(T:Txt K mg a):dR K a.fd_names_of ["question"] []:=T.F_names_of.binds (ps:=["question"]) fun _ _ _ _ _ _ us hl=>match us,hl with | [_],_=>rfl
theorem yX(T:Txt K mg a):dR K a.fd_columns_of ["question"] []:=T.F_columns_of.binds (ps:=["question"]) fun _ _ _ _ _ _ us hl=>match us,hl with | [_],_=>rfl
theorem oG(T:Txt K mg a):dR K a.fd_is_right_behind ["ahead","name","columns"] []:=T.F_is_right_behind.binds (ps:=["ahead","name","columns"]) fun _ _ _ _ _ _ us hl=>match us,hl with | [_,_,_],_=>rfl
theorem lI(T:Txt K mg a):dR K a.fd_i_BadQuestion ["self","at"] []:=T.F_i_BadQuestion.binds (ps:=["self","at"]) fun _ _ _ _ _ _ us hl=>match us,hl with | [_,_],_=>rfl
theorem cZ3(T:Txt K mg a):dR K a.fd_look ["question"] []:=T.F_look.binds (ps:=["question"]) fun _ _ _ _ _ _ us hl=>match us,hl with | [_],_=>rfl
theorem wO(T:Txt K mg a):dR K a.fd_law_is_name ["_law_text"] []:=T.F_law_is_name.binds (ps:=["_law_text"]) fun _ _ _ _ _ _ us hl=>match us,hl with | [_],_=>rfl
theorem wP(T:Txt K mg a):dR K a.fd_law_columns ["_law_question_here"] []:=T.F_law_columns.binds (ps:=["_law_question_here"]) fun _ _ _ _ _ _ us hl=>match us,hl with | [_],_=>rfl
theorem bK9(T:Txt K mg a):dR K a.fd_law_due ["_law_question_here"] []:=T.F_law_due.binds (ps:=["_law_question_here"]) fun _ _ _ _ _ _ us hl=>match us,hl with | [_],_=>rfl
theorem aF1(T:Txt K mg a):dR K a.fd_law_whole ["_law_found"] []:=T.F_law_whole.binds (ps:=["_law_found"]) fun _ _ _ _ _ _ us hl=>match us,hl with | [_],_=>rfl
theorem lR(T:Txt K mg a):dR K a.fd_law_right ["_law_question_here"] []:=T.F_law_right.binds (ps:=["_law_question_here"]) fun _ _ _ _ _ _ us hl=>match us,hl with | [_],_=>rfl
theorem oH(T:Txt K mg a):dR K a.fd_law_bad_columns ["_law_box_here","_law_own"] []:=T.F_law_bad_columns.binds (ps:=["_law_box_here","_law_own"]) fun _ _ _ _ _ _ us hl=>match us,hl with | [_,_],_=>rfl
theorem wQ(T:Txt K mg a):dR K a.fd_law_changed ["_law_box_here","_law_question_here"] []:=T.F_law_changed.binds (ps:=["_law_box_here","_law_question_here"]) fun _ _ _ _ _ _ us hl=>match us,hl with | [_,_],_=>rfl
end
open PySem L2
local macro_rules | `(tactic| walk_at "sx")=>`(tactic| simp only[↓qZ,↓uR,↓aH7,↓uU,↓aH8,↓aH9,↓uT,↓pX,↓uV,↓uM,↓uN,↓dC5,↓bQ2,↓bQ3,↓aH2,↓aN5,↓bQ4,↓uO,↓bQ5,↓aH3,↓bQ6,↓aH4,↓uP,↓aH5,↓uQ,↓pW,↓aH6,↓aI0,↓uW,↓uX,↓bQ7,↓bQ8,↓mK,↓uY,↓mL,↓uZ,↓qC,↓qA,↓aI3,↓aI4,↓aJ0,↓aJ1,↓bR7,↓aI9,↓vC,↓aI5,↓aV5,↓cC0,↓cC1,↓cW2,↓cC2,↓cC3,↓aV6,↓aJ6,↓aJ7,↓cC4,↓cC5,↓cC6,↓aV9,↓yC,↓yD,↓aJ8,↓vD,↓pY,↓vE,↓vF,↓reduceIte,↓mM,↓mO,↓vI,↓vJ,↓vK,↓qE,↓vL,↓qF,↓bT1,dC6,List.set_cons_zero,List.set_cons_succ,aI2,bR6,Int.reducePow,Int.reduceNeg,Int.reduceLT,Int.reduceLE,Int.reduceAdd])
local macro_rules | `(tactic| walk_at "sy")=>`(tactic| simp only[↓uR,↓aH7,↓uU,↓aH8,↓aH9,↓uT,↓pX,↓uV,↓uM,↓uN,↓dC5,↓bQ2,↓bQ3,↓aH2,↓aN5,↓bQ4,↓uO,↓bQ5,↓aH3,↓bQ6,↓aH4,↓uP,↓aH5,↓uQ,↓pW,↓aH6,↓aI0,↓uW,↓uX,↓bQ7,↓bQ8,↓mK,↓uY,↓mL,↓uZ,↓qC,↓qA,↓aI3,↓aI4,↓aJ0,↓aJ1,↓bR7,↓aI9,↓vC,↓aI5,↓aV5,↓cC0,↓cC1,↓cW2,↓cC2,↓cC3,↓aV6,↓aJ6,↓aJ7,↓cC4,↓cC5,↓cC6,↓aV9,↓yC,↓yD,↓aJ8,↓vD,↓pY,↓vE,↓vF,↓reduceIte,↓mM,↓mO,↓vI,↓vJ,↓vK,↓qE,↓vL,↓qF,↓bT1,dC6,List.set_cons_zero,List.set_cons_succ,aI2,bR6,Int.reducePow,Int.reduceNeg,Int.reduceLT,Int.reduceLE,Int.reduceAdd])
section
variable{P:Program}{w:World}{K:PySem.W.Frag}{mg:Str->Option Value}{base:Heap}{a:Adr}
theorem aP5(T:Txt K mg a):FnOk P w K mg base CX0 1 a.i_NoRow a.fd_i_NoRow ["self"] (aO5 K):=by
 refine T.F_i_NoRow.ok tU (fun vs H Q E h=>?_) (fun cdv A outer s H vs Q E hr h=>?_)
 ·obtain⟨e,C,fI,rfl,_⟩:=h
  rfl
 ·obtain⟨e,C,fI,rfl,he,hc,hx,k⟩:=h
  have nd:=tU.nd
  refine⟨_,(bH (fM (vS K rfl T.bi_RowsError (by rfl) T.m_RowsError (aD (pv 0) (aD aR2 aN))))),?_⟩
  rw[show dJ ["self"] [.ref e]=([some (.ref e)]:St)from rfl]
  try walk_at "sx"
  exact⟨e,C,fI,.none,_,rfl,he,hx,k⟩
theorem wR(T:Txt K mg a):FnOk P w K mg base CX0 1 a.i_BadTable a.fd_i_BadTable ["self","at"] (vU K):=by
 refine T.F_i_BadTable.ok nJ (fun vs H Q E h=>?_) (fun cdv A outer s H vs Q E hr h=>?_)
 ·obtain⟨e,C,fI,i,rfl,_⟩:=h
  rfl
 ·obtain⟨e,C,fI,i,rfl,he,hc,hx,hf,hi,k⟩:=h
  have nd:=nJ.nd
  refine⟨_,(aW (fM (vS K rfl T.bi_RowsError (by rfl) T.m_RowsError (aD (pv 0) (aD (cB8 (pv 1)) aN))))
   (bH (cI9 K rfl (pv 0) (pv 1)))),?_⟩
  rw[show dJ ["self","at"] [.ref e,.int i]=([some (.ref e),some (.int i)]:St)from rfl]
  try walk_at "sx"
  exact⟨hi,fun z=>⟨e,C,fI,.none,z,rfl,he,hx,e,C,.none,rfl,he,hc,hf,k⟩⟩
theorem wS(T:Txt K mg a):FnOk P w K mg base CX0 1 a.i_BadHouse a.fd_i_BadHouse ["self","table"] (vV K):=by
 refine T.F_i_BadHouse.ok nK (fun vs H Q E h=>?_) (fun cdv A outer s H vs Q E hr h=>?_)
 ·obtain⟨e,C,fI,i,rfl,_⟩:=h
  rfl
 ·obtain⟨e,C,fI,z,rfl,he,hc,hx,hf,hz,k⟩:=h
  have nd:=nK.nd
  refine⟨_,(aW (fM (vS K rfl T.bi_RowsError (by rfl) T.m_RowsError (aD (pv 0) (aD (cV7 (pv 1)) aN))))
   (bH (cI9 K rfl (pv 0) (pv 1)))),?_⟩
  rw[show dJ ["self","table"] [.ref e,.str z]=([some (.ref e),some (.str z)]:St)from rfl]
  try walk_at "sx"
  exact⟨z,rfl,by have:=hz.1;omega,hz.2,fun z2=>⟨e,C,fI,.none,z2,rfl,he,hx,e,C,.none,rfl,he,hc,hf,k⟩⟩
theorem pS(T:Txt K mg a):FnOk P w K mg base CX0 1 a.i_BadQuestion a.fd_i_BadQuestion ["self","at"] (jD K):=by
 refine T.F_i_BadQuestion.ok jI (fun vs H Q E h=>?_) (fun cdv A outer s H vs Q E hr h=>?_)
 ·obtain⟨e,C,fI,i,rfl,_⟩:=h
  rfl
 ·obtain⟨e,C,fI,i,rfl,he,hc,hx,hf,hi,k⟩:=h
  have nd:=jI.nd
  refine⟨_,(aW (fM (vS K rfl T.bi_RowsError (by rfl) T.m_RowsError (aD (pv 0) (aD (cB8 (pv 1)) aN))))
   (bH (cI9 K rfl (pv 0) (pv 1)))),?_⟩
  rw[show dJ ["self","at"] [.ref e,.int i]=([some (.ref e),some (.int i)]:St)from rfl]
  try walk_at "sx"
  exact⟨hi,fun z=>⟨e,C,fI,.none,z,rfl,he,hx,e,C,.none,rfl,he,hc,hf,k⟩⟩
end
end Mr
namespace Sx
open PySem PySem.SetTable
end Sx
namespace Sx
open PySem PySem.SetTable
end Sx
namespace Sx
open PySem PySem.SetTable
section
variable{t:SetTable}{hs:List Int}
end
end Sx
namespace Sx
open PySem PySem.SetTable
section
variable{t:SetTable}{hs:List Int}{h:Int}{M:Nat}
end
end Sx
namespace Sx
open PySem PySem.SetTable
section
variable{mask:Nat}{ow:Array (Option Nat)}{hs:List Int}
end
end Sx
namespace Dv
open PySem L2 Mr
section
variable{Γ:Gm}{H H1:Hp}{σ σ1:Sg}{σV:St}{p:Addr}{o o':HO}
end
theorem bF{X:Cx}{E:Ex}{i:Nat}{x:Str}{e:Expr}{r:DE}{pos pos':Pos}(hN:X.N.Nodup)(hi:X.N[i]? = some x)(hx:Loc X.env.scope x)(he:GE X e r)(hs:swapsWith e (some (.Name x pos')) pos.line X.env=pure false:=by rfl)(hf:X.fn x=true\/X.env.scope.names.lookup x=some .local:=by first | exact .inl rfl | exact .inr rfl | assumption) :
  GS E X (.Assign [.Name x pos'] e pos) (fL i r):=cX0 fun Γ=>cS hN hi hx (he.to Γ) hs hf
theorem bL0{z:Str}{i:Int}{K:Res->Prop}:OK1 (ixD (.str z) (.int i)) K=(z.length<=sizeLine/\OK1 (atI z.cps.toList i) fun c=>K (.val (.str ⟨#[c]⟩))):=by
 show OK1 (if _ then _ else none) K=_
 rw[bQ,yO]
theorem lS{z:Str}{K:Res->Prop}(h:z.length<=sizeLine):OK1 (jL [.str z]) K=K (.val (.int z.length)):=by
 show OK1 (if _ then _ else none) K=_
 rw[bQ]
 exact propext ⟨fun h=>h.2,fun k=>⟨h,k⟩⟩
def fo(x:Option (Bool×D)):Option Sl:=x.map fun p=>⟨if p.1=true then .own else .val,p.2⟩
theorem bL1{x:Option (Bool×D)}{r:Sg}{s:Sl}{K:Sg->Prop}:PK 0 (fo x::r) s K=K (some s::r):=by
 cases x with
 | none=>rfl
 | some p=>
   obtain⟨b,d⟩:=p
   cases b<;>rfl
@[irreducible] noncomputable def aF2(ow:List Nat)(g:DG)(t:DT)(e:DE)(items:List D)(τ:Sg):=aB0 ow g t e items τ
@[irreducible] noncomputable def cN0(g:DG)(b:DS)(items:List D)(σ:Sg):=bU7 g b items σ
section
variable{σ:Sg}{QS:Out->Prop}{Q:Res->Sg->Prop}{ri:DI}{g:DG}{b:DS}{a:DE}{ra:DA}
theorem aF3:RS (aQ8 ri g b) σ QS=RI ri σ fun items l σ1=>OK1 (cN0 g b items (lendO l σ1)) fun o=>QS (aK2 l σ1 o):=by
 unfold cN0;exact cY8
theorem wT{ow:List Nat}{t:DT}{e:DE}:RE (kX ow ri g t e) σ Q=RI ri σ fun items l σ1=>items.length<=sizeLine/\OK1 (aF2 ow g t e items (bZ ow (lendO l σ1))) fun y=>Q (.own (.lst y.1)) (aQ7 l σ1 (nB ow (lendO l σ1) y.2)):=by
 unfold aF2;exact cL6
theorem wU{items:List D}(P:Nat->Sg->Prop)(h0:P 0 σ)(hs:∀ i d σ,items[i]? = some d->P i σ->OK1 (g d σ) fun σ1=>RS b σ1 fun o=>∃ σ2,(o=.nx σ2\/o=.ct σ2)/\P (i+1) σ2){K:Out->Prop}(k:∀ σ',P items.length σ'->K (.nx σ')):OK1 (cN0 g b items σ) K:=by
 unfold cN0;exact cL5 P h0 hs k
theorem nN{ow:List Nat}{t:DT}{e:DE}{K:List D×Sg->Prop}(items:List D)(τ:Sg)(P:Nat->List D->Sg->Prop)(h0:P 0 [] τ)
  (hs:∀ i d acc τ,items[i]? = some d->P i acc τ->OK1 (g d τ) fun τ1=>RT t τ1 fun b τ2=>if b=true then RE e τ2 fun r τ3=>∃ v,r=.val v/\P (i+1) (acc++[v]) (bZ ow τ3)else P (i+1) acc (bZ ow τ2))
  (k:∀ acc τ,P items.length acc τ->K (acc,τ)):OK1 (aF2 ow g t e items τ) K:=by
 unfold aF2;exact rQ items τ P h0 hs k
end
end Dv
namespace PySem
structure Fill(prog:Program)(w:World)(A:Around)(S I:Addr)(n:Nat)(P:Nat->Value->Prop)(J:Nat->Heap->Prop):Prop where
 put:∀ i v (s:Shared) (Q:Bool->Shared->Prop) (E:Value->Shared->Prop),i < n->P i v->J i s.heap ->
  (∀ b h' tk,J (i+1) h'->(∀ c o,c≠S->s.heap.get? c=some o->h'.get? c=some o)->Q b {s with heap:=h',toks:=tk})->wpAny (model prog w) A (setAdd S v) Q E s
 stay:∀ i h h',J i h->(∀ c o,c≠I->h.get? c=some o->h'.get? c=some o)->J i h'
section
variable{prog:Program}{w:World}{A:Around}{E:Value->Shared->Prop}{R:Result->Shared->Prop}{S I:Addr}{fp:List Addr}{n:Nat}{P:Nat->Value->Prop}{St J:Nat->Heap->Prop}
theorem yY(W:Walks prog w A.in1 I fp [I] n P St)(F:Fill prog w A.in1 S I n P J)(hS:S∉fp) :
  ∀ (k i:Nat) (s:Shared),i+k=n->St i s.heap->J i s.heap ->
    (∀ h' tk,J n h'->(∀ c o,c≠S->c≠I->s.heap.get? c=some o->h'.get? c=some o)->R (.ok (.ret .none)) {s with heap:=h',toks:=tk}) ->
    codeAny (model prog w) A (.builtin "set.update.loop" ⟨[.ref S,.ref I],[]⟩) R s
 | 0,i,s,hk,st,j,q=>by
   have hi:i=n:=hk
   subst hi
   refine codeAny_builtin PyProof.Rows.F.entry_set_update_loop ?_
   rw[Around.under_plainId PyProof.Rows.F.plain_set_update_loop _]
   (show wpAny _ A.in1 (pyNext (.ref I) >>= _) _ _ s;refine wpAny_bind (W.done s _ _ st fun h' tk hk'=>?_))
   have k':∀ c o,c≠I->s.heap.get? c=some o->h'.get? c=some o:=fun c o hc e=>hk' c o (by simpa using hc) e
   exact wpAny_pure (q h' tk (F.stay _ _ _ j k') fun c o _ hc e=>k' c o hc e)
 | k+1,i,s,hk,st,j,q=>by
   have hi:i < n:=by omega
   refine codeAny_builtin PyProof.Rows.F.entry_set_update_loop ?_
   rw[Around.under_plainId PyProof.Rows.F.plain_set_update_loop _]
   (show wpAny _ A.in1 (pyNext (.ref I) >>= _) _ _ s;refine wpAny_bind (W.item i s _ _ hi st fun v h1 tk1 hv st1 hk1=>?_))
   have k1:∀ c o,c≠I->s.heap.get? c=some o->h1.get? c=some o:=fun c o hc e=>hk1 c o (by simpa using hc) e
   (show wpAny _ A.in1 (holding [v] (setAdd S v) >>= _) _ _ _;refine wpAny_bind (wpAny_holding ?_))
   refine F.put i v _ _ _ hi hv (F.stay _ _ _ j k1) fun b h2 tk2 j2 k2=>?_
   refine wpAny_pure ⟨plainId_quiet PyProof.Rows.F.plain_set_update_loop _,?_⟩
   have st2:St (i+1) h2:=W.frame _ _ _ st1 fun c hc o e=>k2 c o (fun z=>hS (z ▸ hc)) e
   exact yY W F hS k (i+1) _ (by omega) st2 j2 fun h' tk jn kn=>q h' tk jn fun c o c1 c2 e=>kn c o c1 c2 (k2 c o c1 (k1 c o c2 e))
theorem cN1{T newId initId:String}{args:List Value}{Q Q₁:Value->Shared->Prop}{s:Shared}(ft:TypeCalled T newId initId)(hct:checkTypeCall T ⟨args,[]⟩=pure ())
  (hnew:codeAny (model prog w) A.in1 (.call (.builtin newId) ⟨.type T::args,[]⟩) (wants Q₁ E) s)
  (hini:∀ obj s₁,Q₁ obj s₁->s₁.TypeIs obj T/\codeAny (model prog w) A.in1 (.call (.builtin initId) ⟨obj::args,[]⟩) (wants (fun r s₂=>r=.none/\Q obj s₂) E) s₁) :
  wpAny (model prog w) A (call (.type T) args) Q E s:=by
 obtain⟨n1,n2,⟨c,tl,n3⟩,n4,n5,n6,n7⟩:=ft
 have hl:=n7.lookup
 refine wpAny_call (codeAny_of_tree (wpAny_pure ⟨Code.quiet_builtin _ (by decide +kernel),codeAny_builtin F.entry_type_call ?_⟩))
 rw[Around.under_plain (weight_type_call_type T args []) rfl]
 repeat (any_goals (first | assumption | wp_step))
 refine codeAny_mono hnew fun r s1 hr=>?_
 match r,hr with
 | .error e,hr=>exact hr
 | .ok (.ret obj),hr=>
   obtain⟨hT,hi⟩:=hini obj s1 hr
   have hb:=n7.bind obj
   repeat (any_goals (first | assumption | wp_step))
   refine codeAny_mono hi fun r s2 hr=>?_
   match r,hr with
   | .error e,hr=>exact hr
   | .ok (.ret x),⟨hx,hq⟩=>
     subst hx
     repeat (any_goals (first | assumption | wp_step))
end
end PySem
namespace PySem
abbrev aP6(es:Array (Int×Value))(ep:Nat)(t:SetTable):Obj:={cls:=.type "set",dict:=none,data:=.set es ep t}
def oJ(w:World):Bool:=!w.params.followText "set-order"
section
variable{prog:Program}{w:World}{A:Around}{E:Value->Shared->Prop}{s:Shared}
theorem cN2(a:Value){Q:Value->Shared->Prop}(h:Q (.ref s.heap.objs.size) {s with heap:=s.heap.push (aP6 #[] 0 (.fresh 0 0 (oJ w)))}) :
  codeAny (model prog w) A (.call (.builtin "set.__new__") ⟨[.type "set",a],[]⟩) (wants Q E) s:=by
 refine codeAny_call_builtin F.plain_set_new F.entry_set_new (wpAny_of_eq (F.newCall_set_1 a) ?_)
 have hsub:=sub_set_self
 unfold Builtin.«set.__new__» Builtin.Frozenset.newClass
 obtain⟨hp,g,d,tk,os⟩:=s
 wp_walk
 refine wpAny_askSetting (wpAny_pure ?_)
 simp only[newObj]
 exact wpAny_bind (wpAny_alloc (wpAny_pure (wpAny_pure h)))
end
section
variable{prog:Program}{w:World}{A:Around}{E:Value->Shared->Prop}{n:Nat}{P:Nat->Value->Prop}{St J:Nat->Heap->Prop}
structure Src(prog:Program)(w:World)(A:Around)(h₀:Heap)(l:Addr)(n:Nat)(P:Nat->Value->Prop) where
 T:String
 St:Addr->Nat->Heap->Prop
 ob:Obj
 ty:∃ o,h₀.get? l=some o/\o.cls=.type T
 n1:isSubtype (.type T) (.type "set")=pure false
 n2:isSubtype (.type T) (.type "frozenset")=pure false
 n3:(Value.type T==Value.type "dict")=false
 iter:∀ (A:Around) (s:Shared) (Q:Value->Shared->Prop) (E:Value->Shared->Prop),(∀ b o,h₀.get? b=some o->s.heap.get? b=some o)->Q (.ref s.heap.objs.size) {s with heap:=s.heap.push ob}->wpAny (model prog w) A (pyIter (.ref l)) Q E s
 free:ob.isFreed=false
 walk:∀ (A':Around),A'.handled=A.handled->∀ I,l≠I->Walks prog w A' I [I,l] [I] n P (St I)
 dJ:∀ h:Heap,(∀ b o,h₀.get? b=some o->h.get? b=some o)->St h.objs.size 0 (h.push ob)
theorem bW1{s:Shared}{l:Addr}{Q:Value->Shared->Prop}(c:Src prog w A s.heap l n P)
  (L:∀ A':Around,A'.handled=A.handled->A'.units<=A.units+8->Fill prog w A' s.heap.objs.size (s.heap.objs.size+1) n P J)
  (j0:∀ (h':Heap),h'.get? s.heap.objs.size=some (aP6 #[] 0 (.fresh 0 0 (oJ w)))->(∀ b o,s.heap.get? b=some o->h'.get? b=some o)->J 0 h')
  (q:∀ h' tk,J n h'->(∀ b o,s.heap.get? b=some o->h'.get? b=some o)->Q (.ref s.heap.objs.size) {s with heap:=h',toks:=tk}) :
  wpAny (model prog w) A (call (.type "set") [.ref l]) Q E s:=by
 obtain⟨T,St,ob,⟨⟨ocls,odict,odata,oslots⟩,hol,hcl⟩,n1,n2,n3,iter,free,walk,dJ⟩:=c
 simp only at hcl
 subst hcl
 have hlt:l < s.heap.objs.size:=Heap.lt_size hol
 refine cN1 (Q₁:=fun obj s₁=>obj=.ref s.heap.objs.size/\s₁={s with heap:=s.heap.push (aP6 #[] 0 (.fresh 0 0 (oJ w)))}) F.called_set (F.typeCall_set_1 _) (cN2 _ ⟨rfl,rfl⟩) fun obj s₁ ⟨e1,e2⟩=>?_
 subst e1 e2
 have hS:(s.heap.push (aP6 #[] 0 (.fresh 0 0 (oJ w)))).get? s.heap.objs.size=some (aP6 #[] 0 (.fresh 0 0 (oJ w))):=Heap.get?_push_size _ rfl
 have old:∀ b o,s.heap.get? b=some o->(s.heap.push (aP6 #[] 0 (.fresh 0 0 (oJ w)))).get? b=some o:=fun b o e=>Heap.get?_push_of_some _ e
 have hT:Shared.TypeIs {s with heap:=s.heap.push (aP6 #[] 0 (.fresh 0 0 (oJ w)))} (.ref s.heap.objs.size) "set":=⟨_,hS,rfl⟩
 have hTl:Shared.TypeIs {s with heap:=s.heap.push (aP6 #[] 0 (.fresh 0 0 (oJ w)))} (.ref l) T:=⟨_,old l _ hol,rfl⟩
 refine⟨hT,codeAny_call_builtin F.called_set.init.plain F.entry_set_init (check_set_init_1 hT ?_)⟩
 have hl2:=old l _ hol
 unfold Builtin.«set.__init__» noKeywords Builtin.Frozenset.updateFrom
 generalize hPI:pyIter=PI
 wp_walk
 subst hPI
 refine iter _ _ _ _ old ?_
 refine wpAny_bind (wpAny_runValue ?_)
 have hz:(s.heap.push (aP6 #[] 0 (.fresh 0 0 (oJ w)))).objs.size=s.heap.objs.size+1:=Heap.size_push ..
 have ne:l≠s.heap.objs.size+1:=fun z=>absurd hlt (by rw[z];exact Nat.not_lt.mpr (Nat.le_succ _))
 have st0:=dJ _ old
 rw[hz]at st0
 have hS2:((s.heap.push (aP6 #[] 0 (.fresh 0 0 (oJ w)))).push ob).get? s.heap.objs.size=some (aP6 #[] 0 (.fresh 0 0 (oJ w))):=Heap.get?_push_of_some _ hS
 have old2:∀ b o,s.heap.get? b=some o->((s.heap.push (aP6 #[] 0 (.fresh 0 0 (oJ w)))).push ob).get? b=some o:=fun b o e=>Heap.get?_push_of_some _ (old b o e)
 show codeAny (model prog w) A.in1.in1 (.builtin "set.update.loop" ⟨[.ref s.heap.objs.size,.ref (s.heap.push (aP6 #[] 0 (.fresh 0 0 (oJ w)))).objs.size],[]⟩) _ _
 rw[hz]
 refine yY (walk A.in1.in1.in1 rfl (s.heap.objs.size+1) ne) (L A.in1.in1.in1 rfl (by show A.units+1+1+1<=A.units+8;omega)) ?_ n 0 _ (Nat.zero_add n) st0 (j0 _ hS2 old2) fun h' tk jn kn=>?_
 ·simp only[List.mem_cons,List.not_mem_nil,or_false,not_or]
  exact⟨Nat.ne_of_lt (Nat.lt_succ_self _),Nat.ne_of_gt hlt⟩
 ·refine wpAny_pure (wpAny_pure ⟨rfl,q h' tk jn fun b o e=>?_⟩)
  have hb:=Heap.lt_size e
  exact kn b o (Nat.ne_of_lt hb) (Nat.ne_of_lt (Nat.lt_succ_of_lt hb)) (old2 b o e)
def Src.list{s:Shared}(hh:A.handled=none){l:Addr}{items:Array Value}(hl:s.heap.IsList l items):Src prog w A s.heap l items.size (fun i v=>items[i]? = some v) where
 T:="list"
 St:=fun I i h=>h.IsListIter I l i/\h.IsList l items
 ob:={cls:=.type "list_iterator",data:=.fields #[.ref l,.int 0 0]}
 ty:=by obtain⟨o,ho,hc,_⟩:=hl;exact⟨o,ho,hc⟩
 n1:=F.sub_list_set
 n2:=F.sub_list_frozenset
 n3:=by decide
 iter:=fun A' s' Q E hk hq=>wpAny_pyIter_list (hl.at fun o e=>hk l o e) hq
 free:=rfl
 walk:=fun A' ha I hne=>Walks.list (ha.trans hh) I l hne items
 dJ:=fun h hk=>⟨⟨_,Heap.get?_push_size _ rfl,rfl,rfl⟩,(hl.at fun o e=>hk l o e).push _⟩
theorem aF4:isSubtype (.type "tuple") (.type "set")=pure false:=by rw[isSubtype_type];kernel_rfl
theorem sV:isSubtype (.type "tuple") (.type "frozenset")=pure false:=by rw[isSubtype_type];kernel_rfl
def Src.tup{s:Shared}(hh:A.handled=none){l:Addr}{items:Array Value}(hl:s.heap.IsTuple l items):Src prog w A s.heap l items.size (fun i v=>items[i]? = some v) where
 T:="tuple"
 St:=fun I i h=>h.IsTupleIter I l i/\h.IsTuple l items
 ob:={cls:=.type "tuple_iterator",data:=.fields #[.ref l,.int 0 0]}
 ty:=by obtain⟨o,ho,hc,_⟩:=hl;exact⟨o,ho,hc⟩
 n1:=aF4
 n2:=sV
 n3:=by decide
 iter:=fun A' s' Q E hk hq=>wpAny_pyIter_tuple (hl.at fun o e=>hk l o e) hq
 free:=rfl
 walk:=fun A' ha I hne=>Walks.tuple (ha.trans hh) I l hne items
 dJ:=fun h hk=>⟨⟨_,Heap.get?_push_size _ rfl,rfl,rfl⟩,(hl.at fun o e=>Heap.get?_push_of_some _ (hk l o e))⟩
end
end PySem
namespace Sx
open PySem PySem.SetTable
section
variable{t:SetTable}{hs:List Int}
end
end Sx
namespace PySem
open Sx
section
variable{prog:Program}{w:World}{A:Around}{E:Value->Shared->Prop}{s:Shared}
end
end PySem
namespace PySem
open Sx
section
variable{prog:Program}{w:World}{A:Around}{E:Value->Shared->Prop}{s:Shared}{S:Addr}{led:Bool}{N:Addr->Prop}{ks:List (List Int)}{o:Obj}{es:Array (Int×Value)}{ep:Nat}{t:SetTable}
end
end PySem
namespace Sx
open PySem PySem.SetTable
end Sx
namespace PySem
open Sx
section
variable{prog:Program}{w:World}{A:Around}{E:Value->Shared->Prop}{s:Shared}{S:Addr}{led:Bool}{N:Addr->Prop}{ks:List (List Int)}{o:Obj}{es:Array (Int×Value)}{ep:Nat}{t:SetTable}
end
end PySem
namespace PySem
open Sx
section
variable{prog:Program}{w:World}{A:Around}{S I:Addr}{led:Bool}{N:Addr->Prop}
end
end PySem
namespace PySem
open Sx
section
variable{prog:Program}{w:World}{A:Around}{E:Value->Shared->Prop}{s:Shared}{S I:Addr}{N:Addr->Prop}{ks:List (List Int)}{o:Obj}{es:Array (Int×Value)}{ep:Nat}{t:SetTable}
end
end PySem
namespace PySem
open Sx L2
section
variable{prog:Program}{w:World}{A:Around}{E:Value->Shared->Prop}{s:Shared}{S I:Addr}{N:Addr->Prop}{ks:List (List Int)}{o:Obj}{es:Array (Int×Value)}{ep:Nat}{t:SetTable}
end
end PySem
namespace Sx
open PySem PySem.W PyProof.Rows
structure Ord(c:Nat->Nat->Bool):Prop where
 ir:∀ a,c a a=false
 tr:∀ {a b d},c a b=true->c b d=true->c a d=true
 nt:∀ {a b d},c b a=false->c d b=false->c d a=false
abbrev at0(p:Array Nat)(i:Nat):Nat:=p.getD i 0
section
variable{N:Nat}{c:Nat->Nat->Bool}{cmp:Nat->Nat->(Bool->Shared->Prop)->Shared->Prop}{s:Shared}(O:Ord c)(hc:∀ i j C,i < N->j < N->C (c i j) s->cmp i j C s)
include O hc
end
end Sx
namespace Sx
open PySem PySem.W PyProof.Rows
def tlt:List Int->List Int->Bool
 | _,[]=>false
 | [],_::_=>true
 | a::x,b::y=>if a=b then tlt x y else decide (a < b)
section
variable{prog:Program}{w:World}{A:Around}{E:Value->Shared->Prop}{s:Shared}
end
end Sx
namespace Sx
open PySem PySem.W PyProof.Rows
end Sx
namespace PySem
open Sx PySem.W PyProof.Rows
section
variable{prog:Program}{w:World}{A:Around}{E:Value->Shared->Prop}{s:Shared}{S:Addr}{N:Addr->Prop}{ks:List (List Int)}{o:Obj}{es:Array (Int×Value)}{ep:Nat}{t:SetTable}
end
end PySem
namespace Dv
open PySem L2 Mr
section
variable{Γ:Gm}{H H0:Hp}{σ σ0:Sg}{σV σV0:St}{i:Nat}{v:V}
end
section
variable{K:PySem.W.Frag}{H:Hp}{C fI:Addr}{f:Str}{E:XK}{Q:Addr->Hp->Prop}
end
end Dv
namespace Dv
open PySem L2 Mr
def aP7:List Res->Option (List D)
 | []=>some []
 | .val d::r=>(aP7 r).bind fun ds=>some (d::ds)
 | _::_=>none
theorem aL0:∀ {rs:List Res} {ds:List D},aP7 rs=some ds->rs=ds.map Res.val
 | [],_,h=>by cases h;rfl
 | .val d::r,_,h=>by
   obtain⟨l,e1,e2⟩:=bind_some h
   cases e2
   rw[aL0 e1];rfl
 | .own _::_,_,h=>by cases h
 | .slot _::_,_,h=>by cases h
def asV(ds:List D):List Sl:=ds.map fun d=>⟨.val,d⟩
theorem tY{Γ:Gm}{H:Hp}{σ:Sg}{σV:St}:∀ {ds:List D} {vs:List V},ResOks Γ H σ σV (ds.map Res.val) vs->Rps H ds vs
 | [],_,h=>by cases h;exact .nil
 | d::r,_,h=>by
   cases h with
   | cons a t _=>exact .cons a (tY t)
theorem aP8{H:Hp}{ds:List D}{vs:List V}(h:Rps H ds vs):ArgOk H (asV ds) vs:=by
 refine⟨by unfold asV;rw[List.length_map,h.length],fun i s e=>?_,fun i j s t p n ei ej m=>?_,fun i s e=>?_⟩
 ·unfold asV at e
  rw[List.getElem?_map]at e
  obtain⟨d,ed,rfl⟩:=Option.map_eq_some_iff.mp e
  obtain⟨v,ev,r⟩:=h.get ed
  exact⟨v,ev,r⟩
 ·unfold asV at ei
  rw[List.getElem?_map]at ei
  obtain⟨d,ed,rfl⟩:=Option.map_eq_some_iff.mp ei
  cases m
 ·unfold asV at e
  rw[List.getElem?_map]at e
  obtain⟨d,ed,rfl⟩:=Option.map_eq_some_iff.mp e
  exact fun z=>nomatch z
theorem yZ{H H':Hp}{ds:List D}{vs:List V}{as':List Sl}(h:PostOk (asV ds) vs H as' H'):lX H H':=fun a o e=>h.fr a o e fun⟨i,s,ei,m,_⟩=>by
 unfold asV at ei
 rw[List.getElem?_map]at ei
 obtain⟨d,ed,rfl⟩:=Option.map_eq_some_iff.mp ei
 cases m
theorem fF{σ:Sg}{σV:St}{i j:Nat}{w:Option V}{s:Sl}(hi:σ[i]? = some none)(hj:σ[j]? = some (some s)):(σV.set i w)[j]? = σV[j]?:=
 List.getElem?_set_ne fun z=>by subst z;rw[hi]at hj;cases hj
theorem StOk.shade'{Γ:Gm}{H:Hp}{σ:Sg}{σV:St}{i:Nat}{w:Option V}(ok:StOk Γ H σ σV)(hi:σ[i]? = some none):StOk Γ H σ (σV.set i w):=by
 refine⟨fun j s e=>?_,fun j l s t p n ej el m m' e1 e2=>?_,fun j s p ej m e=>?_,fun j s p ej m e=>?_,ok.keep,ok.dom,by rw[List.length_set];exact ok.len⟩
 ·rw[fF hi e];exact ok.rel j s e
 ·rw[fF hi ej]at e1
  rw[fF hi el]at e2
  exact ok.dis j l s t p n ej el m m' e1 e2
 ·rw[fF hi ej]at e;exact ok.own j s p ej m e
 ·rw[fF hi ej]at e;exact ok.par j s p ej m e
theorem Step.shade'{H H0:Hp}{σ σ0:Sg}{σV σV0:St}{i:Nat}{w:Option V}(st:Step σ0 σV0 H0 σ σV H)(hi:σ[i]? = some none):Step σ0 σV0 H0 σ (σV.set i w) H:=by
 refine⟨st.fr,st.dom,fun a ⟨j,s,h1,h2,h3⟩=>?_,fun a ⟨j,s,h1,h2,h3⟩=>?_,st.kp,fun j s e m=>?_,st.lt⟩
 ·rw[fF hi h1]at h3;exact st.mu a ⟨j,s,h1,h2,h3⟩
 ·rw[fF hi h1]at h3;exact st.nv a ⟨j,s,h1,h2,h3⟩
 ·obtain⟨s',e1,e2,e3,e4⟩:=st.fix j s e m
  exact⟨s',e1,e2,e3,by rw[fF hi e1];exact e4⟩
def cZ4:D->Prop
 | .int _=>True
 | .str _=>True
 | _=>False
open Classical in
noncomputable def bW2(iF iE iO iR n:Nat)(run:cQ2)(ra:DA)(c f:Str):DS:=fun σ=>(ra σ).bind fun x=>(aP7 x.1).bind fun ds=>(if ds.length=n then run (asV ds)else none).bind fun y=>match y.1 with
 | .ok (.val d)=>if fC x.2 iF=true then some (.nx (x.2.set iF (some ⟨.val,d⟩)))else none
 | .ex c' (some (f',d))=>if c'=c/\f'=f/\cZ4 d/\x.2[iE]? = some none/\iE≠iO/\iE≠iR/\iO≠iR/\fC x.2 iO=true/\fC (x.2.set iO (some ⟨.val,.bl true⟩)) iR=true then some (.nx ((x.2.set iO (some ⟨.val,.bl true⟩)).set iR (some ⟨.val,.tup [.bl true,d]⟩)))else none
 | _=>none
theorem cN3{X:Cx}{K:PySem.W.Frag}{st:Stmt}{iF iE iO iR n:Nat}{run:cQ2}{ra:DA}{c f:Str}{CA R B1 B2 B3:Addr}
  (hns:PySem.W.nsIn K mainGlobals c=some (some (.ref CA))) (hty:PySem.W.typeIn K (.ref CA)=some (.type "type")) (hca:gU K CA (.ref CA)=some true)
  (hk1:PySem.W.kitOne K (.ref CA) (.ref R)=some true) (hk2:PySem.W.kitOne K (.ref CA) (.type "ValueError")=some true) (hk3:PySem.W.kitAny K (.ref CA) [.ref B1,.ref B2,.ref B3]=some false) (hf:PySem.W.findIn K (.ref CA) f=some none)
  (h:∀ Γ,PS X st (dG5 (fun E=>bN9 (aV2 (dD6 K n run) E (dTA Γ ra)) (pH iF)) (hAs K (tC (.ref CA)) iE (cR9 (bN9 (bO7 (tCB (dC8 K) (lL (aG5 iE) (lL (tC (.ref R)) cA7))) (tCB (dC8 K) (lL (aG5 iE) (lL (tC (.ty "ValueError")) cA7)))) (pH iO))
   (bN9 (dC4 (lL (bO7 (aG5 iO) (cF2 (tCB (dC8 K) (lL (aG5 iE) (lL (dC4 (lL (tC (.ref B1)) (lL (tC (.ref B2)) (lL (tC (.ref B3)) cA7)))) cA7))))) (lL (tAt K (aG5 iE) f) cA7))) (pH iR))) fun _ _ _ _ _ _ _=>False))) :
  GS Ex.no X st (bW2 iF iE iO iR n run ra c f):=.mk fun Γ=>psW (h Γ) fun ED σV H ⟨σ,ok,o,e,k⟩=>by
 have e0:=e
 clear e
 obtain⟨⟨rs,σ1⟩,e1,f1⟩:=bind_some e0
 clear e0
 obtain⟨ds,e2,f2⟩:=bind_some f1
 clear f1
 obtain⟨⟨y,as'⟩,e3,e⟩:=bind_some f2
 clear f2
 dsimp only at e1 e2 e3 e
 split at e3
 case isFalse=>cases e3
 rename_i hn
 refine⟨σ,ok,rs,σ1,e1,fun vs H1 ok1 r1 st1 _=>?_⟩
 have hrs:=aL0 e2
 subst hrs
 refine⟨asV ds,y,as',aP8 (tY r1),by unfold asV;rw[List.length_map];exact hn,e3,?_⟩
 cases y with
 | ok res=>
   cases res with
   | val d=>
     dsimp only at e
     split at e
     ·rename_i hp
      cases e
      intro v H' po nw
      have sm:=yZ po
      have ok2:=ok1.same sm
      exact k _ _ (ok2.put hp nw) ((st1.trans (.same sm)).put hp .val (.inl rfl))
     ·cases e
   | own d=>cases e
   | slot i=>cases e
 | ex c' fl=>
   cases fl with
   | none=>cases e
   | some fd=>
     obtain⟨f',d⟩:=fd
     dsimp only at e
     split at e
     ·rename_i hh
      obtain⟨rfl,rfl,hpl,hE,nEO,nER,nOR,hpO,hpR⟩:=hh
      cases e
      intro x dd H' po xo
      have sm:=yZ po
      obtain⟨ea,C,T,rfl,he,hc,hns',dx,yv,rfl,hdx,ry⟩:=xo
      have:C=CA:=by rw[hns]at hns';cases hns';rfl
      subst this
      refine⟨ea,C,T,rfl,he,he,true,.inl ⟨C,rfl,hty,hca⟩,?_⟩
      rw[if_pos rfl]
      have ok2:=ok1.same sm
      have lE:iE < σV.length:=by
       have:=(List.getElem?_eq_some_iff.mp hE).1
       rw[ok1.len]at this;exact this
      have lO:iO < σV.length:=by
       have:=kQ hpO
       rw[ok1.len]at this;exact this
      have hd:∀ {H2:Hp},lX H' H2->(some dx=none\/∃ dx' fs,some dx=some dx'/\H2 dx'=some (.xd fs)):=fun s=>.inr ⟨dx,_,rfl,s _ _ hdx⟩
      have gE:(σV.set iE (some (.ref ea)))[iE]? = some (some (V.ref ea)):=List.getElem?_set_self lE
      refine⟨_,gE,ea,C,some dx,.ref T,.ref R,true,rfl,he,hd (fun _ _ q=>q),hc,.inl ⟨R,rfl,hk1⟩,true,rfl,?_⟩
      rw[if_pos rfl]
      refine⟨_,gE,ea,C,some dx,.ref T,.ty "ValueError",true,rfl,he,hd (fun _ _ q=>q),hc,.inr (.inl ⟨_,rfl,hk2⟩),?_⟩
      have gE2:((σV.set iE (some (.ref ea))).set iO (some (V.bl true)))[iE]? = some (some (V.ref ea)):=by
       rw[List.getElem?_set_ne (Ne.symm nEO)];exact gE
      have gO2:((σV.set iE (some (.ref ea))).set iO (some (V.bl true)))[iO]? = some (some (V.bl true)):=List.getElem?_set_self (by rw[List.length_set];exact lO)
      refine⟨_,gO2,true,rfl,?_⟩
      rw[if_pos rfl]
      refine⟨_,gE2,⟨by show 3<=sizeLine;decide,fun p hp=>?_⟩⟩
      have s2:lX H' (upd H' p (.tup [.ref B1,.ref B2,.ref B3])):=bR hp
      refine⟨ea,C,some dx,.ref T,.ref p,false,rfl,s2 _ _ he,hd s2,hc,.inr (.inr ⟨p,[B1,B2,B3],rfl,aG,hk3⟩),false,rfl,?_⟩
      have hy:(∃ i,yv=.int i)\/∃ z,yv=.str z:=by
       cases ry with
       | int i=>exact .inl ⟨i,rfl⟩
       | str z=>exact .inr ⟨z,rfl⟩
       | non=>exact hpl.elim
       | bl b=>exact hpl.elim
       | tup _ _=>exact hpl.elim
       | lst _ _=>exact hpl.elim
       | dic _ _ _=>exact hpl.elim
      refine⟨_,gE2,ea,C,dx,_,.ref T,yv,rfl,s2 _ _ he,s2 _ _ hdx,hc,hf,by simp,hy,?_⟩
      refine⟨by show 2<=sizeLine;decide,fun q hq=>?_⟩
      have S:lX H1 (upd (upd H' p (.tup [.ref B1,.ref B2,.ref B3])) q (.tup [.bl true,yv])):=(sm.trans s2).trans (bR hq)
      have rt:Rp (upd (upd H' p (.tup [.ref B1,.ref B2,.ref B3])) q (.tup [.bl true,yv])) (.tup [.bl true,d]) (.ref q):=.tup aG (.cons (.bl true) (.cons (ry.mono (.same (s2.trans (bR hq)))) .nil))
      have hEf:((σ1.set iO (some ⟨.val,.bl true⟩)).set iR (some ⟨.val,.tup [.bl true,d]⟩))[iE]? = some none:=by
       rw[List.getElem?_set_ne (Ne.symm nER),List.getElem?_set_ne (Ne.symm nEO)];exact hE
      refine k _ _ ?_ ?_
      ·exact((((ok1.same S).shade' hE).put hpO (.bl true)).put hpR rt).shade' hEf
      ·exact((((st1.trans (.same S)).shade' hE).put hpO .val (.inl rfl)).put hpR .val (.inl rfl)).shade' hEf
     ·cases e
end Dv
namespace L2
open PySem PySem.Spec PyProof.Rows
def cD3:V->List V->Hp->VK->Prop:=fun x vs H Q=>∃ (l:Addr) (zs:List Str) (z:Str),x=.ref l/\vs=[.str z]/\H l=some (.lst (zs.map V.str))/\Q (.int (zs.count z:Nat)) H
theorem tZ{z:Str}:∀ {zs:List Str} {us:List Value},cF (zs.map V.str) us->us.countP (isZ z)=zs.count z
 | [],_,.nil=>rfl
 | y::r,_,.cons h1 h2=>by
   obtain⟨t,rfl⟩:=h1
   rw[List.countP_cons,List.count_cons,tZ h2]
   rfl
theorem bW3{X:Cx}:MtR X "list.count" cD3:=by
 intro pins s σ H x vs v us Q I rx rv h
 obtain⟨l,zs,z,rfl,rfl,hH,q⟩:=h
 cases rx
 obtain⟨u,rfl,ru⟩:=rv.one
 obtain⟨t,rfl⟩:=ru
 obtain⟨hsz,its,n,r,hl,e⟩:=I.lstM hH
 refine call_meets F.slot_list_count ⟨_,e,rfl⟩ F.entry_list_count (F.args_list_count_2 _ _) (MeetsSeq.list_count l its.toArray n (.str z t) (isZ z) fun y hy=>?_) ⟨e,?_⟩
 ·obtain⟨y',t',rfl⟩:=zR r y (by simpa using hy)
  exact eqGives_str y' z t' t
 ·have e2:its.toArray.toList.countP (isZ z)=zs.count z:=by simpa using tZ r
  rw[e2]
  exact⟨.int _,H,I.tok _,⟨_,rfl⟩,q⟩
end L2
namespace PySem
def nud{κ:Type}[DecidableEq κ]:List κ->List κ->Nat
 | _,[]=>0
 | seen,k::r=>if k∈seen then nud seen r else nud (k::seen) r+1
section
variable{κ:Type}[DecidableEq κ]
theorem nO:∀ (r:List κ) {a b:List κ},(∀ k,k∈a↔k∈b)->nud a r=nud b r
 | [],_,_,_=>rfl
 | k::r,a,b,h=>by
   show(if k∈a then nud a r else nud (k::a) r+1)=if k∈b then nud b r else nud (k::b) r+1
   by_cases hk:k∈a
   ·rw[if_pos hk,if_pos ((h k).mp hk),nO r h]
   ·rw[if_neg hk,if_neg fun z=>hk ((h k).mpr z),nO r (a:=k::a) (b:=k::b) fun x=>by simp only[List.mem_cons,h x]]
theorem aL1:∀ (r seen:List κ),nud seen r<=r.length
 | [],_=>Nat.le_refl _
 | k::r,seen=>by
   show(if k∈seen then nud seen r else nud (k::seen) r+1)<=r.length+1
   split
   ·exact Nat.le_succ_of_le (aL1 r seen)
   ·exact Nat.succ_le_succ (aL1 r _)
theorem cD4:∀ (r seen:List κ),nud seen r=r.length↔r.Nodup/\∀ k∈r,k∉seen
 | [],_=>by simp[nud]
 | k::r,seen=>by
   show(if k∈seen then nud seen r else nud (k::seen) r+1)=r.length+1↔_
   by_cases hk:k∈seen
   ·rw[if_pos hk]
    have:=aL1 r seen
    constructor
    ·intro h;omega
    ·intro h;exact absurd hk (h.2 k (by simp))
   ·rw[if_neg hk,Nat.add_right_cancel_iff,cD4 r (k::seen),List.nodup_cons]
    constructor
    ·rintro⟨h1,h2⟩
     refine⟨⟨fun z=>h2 k z (by simp),h1⟩,fun x hx=>?_⟩
     rcases List.mem_cons.mp hx with rfl | hx
     ·exact hk
     ·exact fun z=>h2 x hx (List.mem_cons_of_mem _ z)
    ·rintro⟨⟨h1,h2⟩,h3⟩
     refine⟨h2,fun x hx z=>?_⟩
     rcases List.mem_cons.mp z with rfl | z
     ·exact h1 hx
     ·exact h3 x (List.mem_cons_of_mem _ hx) z
theorem nP{r:List κ}:nud [] r=r.length↔r.Nodup:=by
 rw[cD4];simp
end
section
variable{prog:Program}{w:World}{A:Around}{κ:Type}[DecidableEq κ]{knd:KeyKind prog w κ}
theorem bL2{S I:Addr}{items:Array Value}{ks:List κ}(hl:ks.length=items.size)(hk:∀ (i:Nat) v,items[i]? = some v->∃ k,ks[i]? = some k/\knd.is k v=true/\v.scannable=true)(hb:ks.length+1 < scanBound)(hSI:S≠I) :
  Fill prog w A S I items.size (fun i v=>items[i]? = some v) (fun i h=>∃ m,h.SetOf knd S (fun k=>decide (k∈ks.take i)) m/\m<=i/\m+nud (ks.take i) (ks.drop i)=nud [] ks) where
 put:=fun i v s Q E hi hv ⟨m,hS,hm,hn⟩ q=>by
  obtain⟨k,ek,kv,sc⟩:=hk i v hv
  have hik:i < ks.length:=by rw[hl];exact hi
  have et:ks.take (i+1)=ks.take i++[k]:=by rw[List.take_add_one,ek];rfl
  have ed:ks.drop i=k::ks.drop (i+1):=by
   rw[List.drop_eq_getElem_cons hik,(List.getElem?_eq_some_iff.mp ek).2]
  unfold setAdd
  refine wpAny_holding (wpAny_bind (knd.pyHash kv ?_))
  refine wpAny_setAddHashed_of (knd:=knd) kv sc hS (by omega) fun h' hsb hS'=>?_
  refine q _ h' _ ⟨if decide (k∈ks.take i)=true then m else m+1,?_,?_,?_⟩ fun c o hc e=>(hsb.2 c hc).trans e
  ·have e:(fun k'=>decide (k'∈ks.take i)||decide (k'=k))=fun k'=>decide (k'∈ks.take (i+1)):=by
    funext k';rw[et];simp[← Bool.decide_or]
   rw[e]at hS';exact hS'
  ·split<;>omega
  ·rw[ed]at hn
   have hn':m+(if k∈ks.take i then nud (ks.take i) (ks.drop (i+1))else nud (k::ks.take i) (ks.drop (i+1))+1)=nud [] ks:=hn
   have ec:nud (ks.take (i+1)) (ks.drop (i+1))=nud (k::ks.take i) (ks.drop (i+1)):=nO _ fun x=>by rw[et];simp[or_comm]
   rw[ec]
   by_cases hm':k∈ks.take i
   ·rw[if_pos hm']at hn'
    rw[show(decide (k∈ks.take i))=true from decide_eq_true hm',if_pos rfl,← nO (ks.drop (i+1)) (a:=ks.take i) (b:=k::ks.take i) fun x=>⟨fun z=>List.mem_cons_of_mem _ z,fun z=>by
     rcases List.mem_cons.mp z with rfl | z
     ·exact hm'
     ·exact z⟩]
    exact hn'
   ·rw[if_neg hm']at hn'
    rw[show(decide (k∈ks.take i))=false from decide_eq_false hm',if_neg Bool.false_ne_true]
    omega
 stay:=fun i h h' ⟨m,⟨o,es,ep,t,ho,r⟩,hm⟩ k=>⟨m,⟨o,es,ep,t,k S o hSI ho,r⟩,hm⟩
end
end PySem
namespace L2
open PySem PySem.Spec PyProof.Rows
theorem aL2{X:Cx}{id U:String}{x y:Str}{p p' pos pos':Pos}{e:Expr}{es:List Expr}{t:TA}{r:List V->Hp->VK->Prop}
  (hc:∀ pins s σ H vs us Q,Inv X pins σ H s->cF vs us->r vs H Q->wpAny (model X.prog X.w) X.A (call (.type U) us) (fun u s1=>wpAny (model X.prog X.w) X.A (call (.builtin id) [u]) (EP X pins σ Q) X.xe s1) X.xe s)
  (hg:Gl X x) (hm:X.mg x=none) (hv:bootBuiltins x=some (.builtin id)) (hg':Gl X y) (hm':X.mg y=none) (hv':bootBuiltins y=some (.type U)) (ha:PA X (e::es) t)
  (hn:x≠"__name__":=by decide) (hdb:(x==("__debug__":Str))=false:=by decide) (hn':y≠"__name__":=by decide) (hdb':(y==("__debug__":Str))=false:=by decide)
  (he:starEach (e::es) X.env=(false,eval e X.env)::starEach es X.env:=by rfl) (hpl:(backTo pos' (starEach es X.env)).any (·.1)=false:=by rfl)
  (hs:starEach [.Call (.Name y p') (e::es) [] pos'] X.env=(false,eval (.Call (.Name y p') (e::es) [] pos') X.env)::starEach [] X.env:=by rfl) :
  PE X (.Call (.Name x p) [.Call (.Name y p') (e::es) [] pos'] [] pos) (tCB r t):=by
 intro pins s σ H Q I h
 refine wpAny_Call_Name_kw (kZ I hg hm hv (PyProof.Rows.callWith_builtin1 ?_ hs (by rfl)) hn hdb)
 rw[hs]
 (show wpAny _ _ (spliced ((false,eval (.Call (.Name y p') (e::es) [] pos') X.env)::backTo pos (starEach [] X.env))) _ _ s;refine Calls.spliced_cons (wpAny_Call_Name_kw (kZ I hg' hm' hv' (PyProof.Rows.callWith_type1 ?_ he hpl) hn' hdb')))
 exact thn (ha pos' pins s σ H _ I h) fun us s1 ⟨vs,H1,I1,r1,q1⟩=>thn (hc pins s1 σ H1 vs us Q I1 r1 q1) fun u s2 h2=>Calls.spliced_nil h2
theorem bW4{X:Cx}{pins:List (Addr×Obj)}{σ:St}{H:Hp}{s:Shared}{p:Addr}{b:Bool}{xs:List V}(I:Inv X pins σ H s)(hc:X.calm=true)(h:eP H p=some (b,xs)) :
  ∃ items:List Value,cF xs items/\Nonempty (Src X.prog X.w X.A s.heap p items.toArray.size fun i v=>items.toArray[i]? = some v):=by
 cases b with
 | true=>
   obtain⟨its,r,⟨o,n,e1,e2,e3,e4⟩,_⟩:=I.list (eY h)
   exact⟨its,r,⟨Src.list (I.ok.hd hc) ⟨o,e1,e2,n,e4⟩⟩⟩
 | false=>
   obtain⟨its,r,q,_⟩:=I.tuple (dS h)
   exact⟨its,r,⟨Src.tup (I.ok.hd hc) q⟩⟩
def bL3:List V->Hp->VK->Prop:=fun vs H Q=>∃ p b zs,vs=[.ref p]/\eP H p=some (b,zs.map V.str)/\zs.length < 4000/\Q (.int (nud [] zs:Nat)) H
theorem sE{X:Cx}(hc:X.calm=true):∀ pins s σ H vs us Q,Inv X pins σ H s->cF vs us->bL3 vs H Q ->
  wpAny (model X.prog X.w) X.A (call (.type "set") us) (fun u s1=>wpAny (model X.prog X.w) X.A (call (.builtin "len") [u]) (EP X pins σ Q) X.xe s1) X.xe s:=by
 intro pins s σ H vs us Q I rv h
 obtain⟨p,b,zs,rfl,hH,hz,q⟩:=h
 obtain⟨u,rfl,ru⟩:=rv.one
 cases ru
 obtain⟨its,r,⟨src⟩⟩:=bW4 I hc hH
 have hlen:zs.length=its.toArray.size:=by simpa using r.length
 refine bW1 src (fun A' _ _=>bL2 (knd:=strKind X.prog X.w) (ks:=zs) hlen (fun i v hv=>?_) (by unfold scanBound;omega) (Nat.ne_of_lt (Nat.lt_succ_self _))) (fun h' hS _=>?_) fun h' tk ⟨m,hS,_,hm⟩ hk=>?_
 ·rw[List.getElem?_toArray]at hv
  have hi:i < zs.length:=by
   have:=(List.getElem?_eq_some_iff.mp hv).1
   rw[hlen,List.size_toArray];exact this
  have ez:zs[i]? = some zs[i]:=List.getElem?_eq_getElem hi
  obtain⟨u,hu,ru⟩:=r.get (i:=i) (x:=.str zs[i]) (by rw[List.getElem?_map,ez];rfl)
  rw[hu]at hv;cases hv
  obtain⟨t,rfl⟩:=ru
  generalize zs[i]=z at ez
  exact⟨z,ez,by simp[PySem.strKind,Value.isStrOf],rfl⟩
 ·exact⟨0,⟨_,#[],0,_,hS,⟨rfl,rfl,rfl⟩,rfl,fun e he=>by simp at he,fun k=>by simp,by decide,by rfl,rfl⟩,Nat.le_refl _,by simp⟩
 ·obtain⟨o,es,ep,t,ho,hex,hd,_,_,hsz,hf,hn⟩:=hS
  have e1:nud (zs.take its.toArray.size) (zs.drop its.toArray.size)=0:=by rw[← hlen,List.drop_length];rfl
  have e2:es.size=nud [] zs:=by omega
  refine call_len_set ho hex hd hf (by unfold scanBound at hsz;omega) ?_
  refine⟨.int (nud [] zs:Nat),H,?_,?_,q⟩
  ·have I2:Inv X pins σ H {s with heap:=h',toks:=tk}:=Inv.spun0 (ch:=[]) I (fun b hb=>by simp at hb) fun b o _ e=>hk b o e
   exact I2.tok _
  ·rw[e2];exact⟨_,rfl⟩
end L2
namespace Dv
open PySem L2 Mr
def sF:FN:=fun ds=>match ds with
 | [d]=>(cP8 d).bind fun x=>(sR x.2).bind fun zs=>if zs.length < 4000 then some (.val (.int (nud [] zs:Nat)))else none
 | _=>none
theorem uA:cJ3 bL3 sF:=by
 intro H ds vs Q res vw e k
 unfold sF at e
 split at e
 ·obtain⟨⟨b,l⟩,e1,e⟩:=bind_some e
  obtain⟨zs,e2,e⟩:=bind_some e
  dsimp only at e2
  split at e
  ·rename_i hz
   cases e
   cases vw with
   | cons a t=>
     cases t
     obtain⟨p,xs,rfl,h1,h2⟩:=cW7 a e1
     rw[qM e2]at h2
     rw[h2.strs_inv]at h1
     exact⟨p,b,zs,rfl,h1,hz,k _ _ (.refl _) (.int _)⟩
  ·cases e
 ·cases e
theorem bL4{zs:List Str}{K:Res->Prop}:OK1 (sF [.tup (zs.map D.str)]) K=(zs.length < 4000/\K (.val (.int (nud [] zs:Nat)))):=by
 show OK1 ((sR (zs.map D.str)).bind _) K=_
 rw[rR]
 show OK1 (if _ then _ else none) K=_
 rw[bQ];rfl
def dD7:FM:=fun d ds=>match d,ds with
 | .lst l,[.str z]=>(sR l).bind fun zs=>some (.lst l,.int (zs.count z:Nat))
 | _,_=>none
theorem bL5{H:Hp}{p:Addr}{o:HO}(h:H p=some o):upd H p o=H:=by
 funext b
 by_cases hb:b=p
 ·subst hb;rw[aG,h]
 ·rw[aF hb]
theorem cN4:dG8 cD3 dD7:=by
 intro H d p ds vs Q d' e ow r eq k
 unfold dD7 at eq
 split at eq
 ·obtain⟨zs,e1,eq⟩:=bind_some eq
  cases eq
  obtain⟨xs,h1,h2⟩:=ow
  have h2':=h2
  rw[qM e1]at h2'
  have hx:=h2'.strs_inv
  subst hx
  cases r with
  | cons a t=>
    cases t
    cases a
    have q:=k (.lst (zs.map V.str)) (.int (zs.count _:Nat)) (by rw[bL5 h1];exact⟨_,h1,h2⟩) (.int _)
    rw[bL5 h1]at q
    exact⟨p,zs,_,rfl,rfl,h1,q⟩
 ·cases eq
theorem cZ5{zs:List Str}{z:Str}{K:D×D->Prop}:OK1 (dD7 (.lst (zs.map D.str)) [.str z]) K=K (.lst (zs.map D.str),.int (zs.count z:Nat)):=by
 show OK1 ((sR (zs.map D.str)).bind _) K=_
 rw[rR];rfl
end Dv
namespace L2
open PySem PySem.Spec PyProof.Rows Sx
end L2
namespace L2
open PySem PySem.Spec PyProof.Rows Sx
section
variable{X:Cx}{o e:Expr}{es:List Expr}{to:TE}{t:TA}{name:Str}{apos cpos:Pos}{id:String}{r:V->List V->Hp->VK->Prop}
end
theorem zA:∀ (x y:List Int),HT.lexLt x y=tlt x y
 | [],[]=>rfl
 | [],_::_=>rfl
 | _::_,[]=>rfl
 | a::x,b::y=>by
   rw[HT.lexLt_cons,zA x y];rfl
def dK6:R2:=fun x y H Q=>(∃ i j,x=.int i/\y=.int j/\Q (.bl (decide (i < j))) H)\/∃ a b ns ms,x=.ref a/\y=.ref b/\H a=some (.tup (ns.map V.int))/\H b=some (.tup (ms.map V.int))/\Q (.bl (tlt ns ms)) H
theorem uB{X:Cx}(hu:X.A.units < cLine):OpR X (compareOp .Lt) dK6:=by
 intro pins s σ H x y v u Q I rx ry h
 rcases h with⟨i,j,rfl,rfl,q⟩ | ⟨a,b,ns,ms,rfl,rfl,ha,hb,q⟩
 ·exact aS4 pins s σ H _ _ v u Q I rx ry ⟨i,j,rfl,rfl,q⟩
 ·exact cT4 hu pins s σ H _ _ v u Q I rx ry ⟨a,b,ns,ms,rfl,rfl,SqT.of ha,SqT.of hb,by rw[zA];exact q⟩
end L2
namespace Dv
open PySem L2 Mr Sx
def bW5:List D->Option (List Int)
 | []=>some []
 | .int i::r=>(bW5 r).bind fun l=>some (i::l)
 | _::_=>none
theorem wV:∀ {l:List D} {zs:List Int},bW5 l=some zs->l=zs.map D.int
 | [],_,h=>by cases h;rfl
 | .int s::r,_,h=>by
   obtain⟨l,e1,e2⟩:=bind_some h
   cases e2
   rw[wV e1];rfl
 | .non::_,_,h=>by cases h
 | .str _::_,_,h=>by cases h
 | .bl _::_,_,h=>by cases h
 | .tup _::_,_,h=>by cases h
 | .lst _::_,_,h=>by cases h
 | .dic _ _::_,_,h=>by cases h
theorem wW{n:Nat}{σ:Sg}{gs:DGs}{z:Str}{K:Sg->Prop}:OK1 (pM n gs (.str z) σ) K=(z.length=n/\OK1 (gs (iA z) σ) K):=by
 show OK1 (if z.length=n then gs (iA z) σ else none) K=_
 rw[bQ]
def ltA:F2:=fun d e=>match d,e with
 | .int i,.int j=>some (.val (.bl (decide (i < j))))
 | .tup x,.tup y=>(bW5 x).bind fun ns=>(bW5 y).bind fun ms=>some (.val (.bl (tlt ns ms)))
 | _,_=>none
theorem oK:pJ dK6 ltA:=by
 intro H d1 d2 x y Q res v1 v2 e k
 unfold ltA at e
 split at e
 ·cases e
  rw[dB v1,dB v2]
  exact .inl ⟨_,_,rfl,rfl,k _ _ (.refl _) (.bl _)⟩
 ·obtain⟨ns,e1,e⟩:=bind_some e
  obtain⟨ms,e2,e⟩:=bind_some e
  cases e
  obtain⟨p,xs,rfl,h1,r1⟩:=fY v1
  obtain⟨q,ys,rfl,h2,r2⟩:=fY v2
  rw[wV e1]at r1
  rw[wV e2]at r2
  rw[r1.ints_inv]at h1
  rw[r2.ints_inv]at h2
  exact .inr ⟨p,q,ns,ms,rfl,rfl,h1,h2,k _ _ (.refl _) (.bl _)⟩
 ·cases e
theorem bL6{i j:Int}{K:Res->Prop}:OK1 (ltA (.int i) (.int j)) K=K (.val (.bl (decide (i < j)))):=rfl
end Dv
namespace L2
end L2
namespace PySem.SeqAt
open PySem MeetsSeq MeetsSeq2 MeetsSeq3 SeqRoads2
end PySem.SeqAt
namespace L2
open PySem PySem.Spec PyProof.Rows Sx
end L2
namespace Dv
open PySem L2 Mr Sx
end Dv
namespace PySem
open Sx L2
section
variable{prog:Program}{w:World}{A:Around}{E:Value->Shared->Prop}{s:Shared}{S I:Addr}{led:Bool}{o:Obj}{es:Array (Int×Value)}{ep:Nat}{t:SetTable}
end
end PySem
namespace PySem
open Sx
end PySem
namespace PySem
open Sx PySem.W PyProof.Rows
section
variable{prog:Program}{w:World}{A:Around}{E:Value->Shared->Prop}{s:Shared}{S:Addr}{led:Bool}{ks:List Int}
end
end PySem
namespace Sx
open PySem PySem.W PyProof.Rows
end Sx
namespace PySem
open Sx PySem.W PyProof.Rows
section
variable{prog:Program}{w:World}{A:Around}{E:Value->Shared->Prop}{s:Shared}{S:Addr}{ks:List Int}
end
end PySem
namespace L2
open PySem PySem.Spec PyProof.Rows Sx
end L2
namespace L2
open PySem PySem.Spec PyProof.Rows Sx
end L2
namespace Dv
open PySem L2 Mr Sx
end Dv
namespace Dv
open PySem L2 Mr
def cZ6(C:MC):Prop:=∀ as (K K':Res->List Sl->Prop),(∀ r l,K r l->K' r l)->C as K->C as K'
structure GM1(E:Ex)(X:Cx)(st:Stmt)(m:MS):Prop where
 to:∀ Γ,PS X st (mTS Γ E m)
 mon:bO2 m
section
variable{X:Cx}{E:Ex}{st:Stmt}{ss dI:List Stmt}{r:DS}{a b m:MS}{pos:Pos}
theorem aL3:bO2 (RS r):=fun _ _ _ w q=>cP q w
theorem cD5{Γ:Gm}{D:Ends}{σV:St}{H:Hp}(h:mTS Γ E (RS r) D σV H):dTS Γ E r D σV H:=by
 obtain⟨σ,ok,q⟩:=h
 obtain⟨o,e,q⟩:=oY.mp q
 exact⟨σ,ok,o,e,q⟩
theorem cZ7(h:GSs E X ss r):GM E X ss (RS r):=⟨fun Γ=>cW5 (h.to Γ) fun _ _ _=>cD5,aL3⟩
theorem cN5(h:GS E X st r):GM1 E X st (RS r):=⟨fun Γ=>psW (h.to Γ) fun _ _ _=>cD5,aL3⟩
def sqM(b:MS)(Q:Out->Prop)(o:Out):Prop:=match o with
 | .nx σ1=>b σ1 Q
 | o=>Q o
def dD8(a b:MS):MS:=fun σ Q=>a σ (sqM b Q)
theorem aF5(h1:bO2 a)(h2:bO2 b):bO2 (dD8 a b):=fun σ Q Q' w q=>h1 σ _ _ (fun o q=>by
 cases o with
 | nx σ1=>exact h2 σ1 _ _ w q
 | rt r σ'=>exact w _ q
 | bk σ'=>exact w _ q
 | ct σ'=>exact w _ q
 | ex c f σ'=>exact w _ q) q
theorem bL7(h1:GM1 E X st a)(h2:GM E X dI b):GM E X (st::dI) (dD8 a b) where
 to:=fun Γ=>cW5 (aW (h1.to Γ) (h2.to Γ)) fun D σV H ⟨σ,ok,q⟩=>⟨σ,ok,h1.mon σ _ _ (fun o q=>by
  cases o with
  | nx σ1=>exact fun σV1 H1 ok1 st1=>⟨σ1,ok1,h2.mon σ1 _ _ (fun o q=>q.after st1) q⟩
  | rt r σ'=>exact q
  | bk σ'=>exact q
  | ct σ'=>exact q
  | ex c f σ'=>exact q) q⟩
 mon:=aF5 h1.mon h2.mon
def cN6(i n:Nat)(C:MC)(ra:DA):MS:=fun σ Q=>OK1 (ra σ) fun x=>OK1 (rK x.2 x.1) fun as=>(as.length=n/\eR x.1=true)/\C as fun y as'=>OK1 (dC9 i y (iY x.1 as' 0 x.2)) fun σ2=>Q (.nx σ2)
theorem bW6{Γ:Gm}{i:Nat}{x:Res}{σ σ1 σ2:Sg}{σV:St}{H H1:Hp}{v:V}(ok1:StOk Γ H1 σ1 σV)(r1:jK Γ H1 σ1 σV x v)(st1:Step σ σV H σ1 σV H1)(f1:Frh H x v)(e2:dC9 i x σ1=some σ2) :
  StOk Γ H1 σ2 (σV.set i (some v))/\Step σ σV H σ2 (σV.set i (some v)) H1:=by
 cases x with
 | val d=>
   have e2':(if fC σ1 i=true then some (σ1.set i (some ⟨.val,d⟩))else none)=some σ2:=e2
   split at e2'
   ·rename_i hp;cases e2';exact⟨ok1.put hp r1,st1.put hp .val (.inl rfl)⟩
   ·cases e2'
 | own d=>
   have e2':(if fC σ1 i=true then some (σ1.set i (some ⟨.own,d⟩))else none)=some σ2:=e2
   split at e2'
   ·rename_i hp
    cases e2'
    obtain⟨p,rfl,q1,q2,q3⟩:=r1
    exact⟨ok1.putOwn hp q1 q2 q3,st1.put hp .own (.inr ⟨rfl,fun p e=>f1 _ p rfl e⟩)⟩
   ·cases e2'
 | slot j=>cases e2
theorem aL4{i n:Nat}{C:MC}{ra:DA}(hC:cZ6 C):bO2 (cN6 i n C ra):=fun σ Q Q' w q=>cP q fun x q=>cP q fun as q=>⟨q.1,hC _ _ _ (fun y as' q=>cP q fun σ2 q=>w _ q) q.2⟩
theorem cN7{i n:Nat}{C:MC}{ra:DA}{EK:XK}(hC:cZ6 C)(h:∀ Γ,PS X st (bN9 (aM6 (bU9 n C) [] EK (dTA Γ ra)) (pH i))):GM1 E X st (cN6 i n C ra) where
 to:=fun Γ=>psW (h Γ) fun D σV H ⟨σ,ok,q⟩=>by
  obtain⟨⟨rs,σ1⟩,e1,q⟩:=oY.mp q
  obtain⟨as,e2,⟨hl,hn⟩,q⟩:=oY.mp q
  refine⟨σ,ok,rs,σ1,e1,fun vs H1 ok1 r1 st1 f1=>?_⟩
  show bU9 n C (vs++[]) H1 _ EK
  rw[List.append_nil]
  obtain⟨ao,c⟩:=yL e2 hn ok1 r1 st1 f1
  refine⟨as,ao,hl,hC _ _ _ (fun y as' q v H2 po nw=>?_) q⟩
  obtain⟨q1,q2,q3,q4⟩:=c y as' v H2 po nw
  obtain⟨σ2,e3,q⟩:=oY.mp q
  obtain⟨p1,p2⟩:=bW6 q1 q2 q3 q4 e3
  exact q _ _ p1 p2
 mon:=aL4 hC
end
theorem cN8{len:Nat}{m:MS}(hm:bO2 m):cZ6 (dD0 len m):=fun as K K' w q=>hm _ _ _ (fun o q=>by
 cases o with
 | nx σ=>exact w _ _ q
 | rt r σ=>obtain⟨r',e,q⟩:=q;exact⟨r',e,w _ _ q⟩
 | bk σ=>exact q
 | ct σ=>exact q
 | ex c f σ=>exact q) q
theorem aP9{C:MC}{K:PySem.W.Frag}{H:Hp}{a:Addr}{ns:List Int}(hC:cZ6 C)(hK:aY7 K=true)(hO:cU3 H)(hS:SqL K H a (ns.map V.int))(h:C [⟨.val,.lst (ns.map D.int)⟩] fun y _=>y=.val (.bl true)) :
  bU9 1 C [.ref a] H (fun v _=>v=.bl true) (fun _ _ _=>False):=
 ⟨_,cK8 hK hO hS,rfl,hC _ _ _ (fun y as' e v H' po nw=>by subst e;cases nw;rfl) h⟩
end Dv
namespace Dv
open PySem L2 Mr
abbrev qP(q:Str×List Str):D:=.tup [.str q.1,.tup (q.2.map D.str)]
abbrev qD(qs:List (Str×List Str)):D:=.tup (qs.map qP)
def Qs(qs:List (Str×List Str)):Prop:=1<=qs.length/\qs.length<=6/\∀ q∈qs,Shz q.1/\q.2.length<=10/\gS q.2
def cQ:MC:=fun as K=>∃ (a b k:Int),as=[⟨.par,.lst [.int a,.int b]⟩,⟨.val,.int k⟩]/\0<=k/\k<=3/\∀ qs a' b',Qs qs->K (.val (qD qs)) [⟨.par,.lst [.int a',.int b']⟩,⟨.val,.int k⟩]
theorem cZ8:cZ6 cQ:=fun as K K' w ⟨a,b,k,e,h0,h3,q⟩=>⟨a,b,k,e,h0,h3,fun qs a' b' h=>w _ _ (q qs a' b' h)⟩
theorem cD6{H:Hp}:∀ (zs:List Str) (es:List V),es.length=zs.length->(∀ (j:Nat) z,zs[j]? = some z->∃ (a c:Addr) (cs:List Str),es[j]? = some (.ref a)/\H a=some (.tup [.str z,.ref c])/\H c=some (.tup (cs.map V.str))/\cs.length<=10/\gS cs) ->
  ∃ qs:List (Str×List Str),qs.map Prod.fst=zs/\Rps H (qs.map qP) es/\∀ q∈qs,q.2.length<=10/\gS q.2
 | [],[],_,_=>⟨[],rfl,.nil,fun _ h=>nomatch h⟩
 | z::zs,e::es,hl,h=>by
   obtain⟨a,c,cs,e1,e2,e3,e4,e5⟩:=h 0 z rfl
   obtain rfl:e=.ref a:=Option.some.inj e1
   obtain⟨qs,h1,h2,h3⟩:=cD6 zs es (by simpa using hl) fun j z hz=>by
    obtain⟨a,c,cs,f⟩:=h (j+1) z (by simpa using hz)
    exact⟨a,c,cs,by simpa using f⟩
   refine⟨(z,cs)::qs,by rw[List.map_cons,h1],.cons (.tup e2 (.cons (.str z) (.cons (.tup e3 (aJ9 cs)) .nil))) h2,fun q hq=>?_⟩
   rcases List.mem_cons.mp hq with rfl | hq
   ·exact⟨e4,e5⟩
   ·exact h3 q hq
theorem cZ9{α:Type}{vs:List α}{x y:α}(h:2=vs.length)(h0:vs[0]? = some x)(h1:vs[1]? = some y):vs=[x,y]:=by
 match vs,h with
 | [a,b],_=>cases h0;cases h1;rfl
theorem cN9{H:Hp}{p:Addr}{i j m:Int}(hp:H p=some (.lst [.int i,.int j])):ArgOk H [⟨.par,.lst [.int i,.int j]⟩,⟨.val,.int m⟩] [.ref p,.int m]:=by
 refine⟨rfl,fun n s e=>?_,fun n l s t q hn e1 e2 m1 m2 v1 v2=>?_,fun n s e=>?_⟩
 ·match n,e with
  | 0,e=>cases e;exact⟨_,rfl,p,rfl,_,hp,qG [i,j]⟩
  | 1,e=>cases e;exact⟨_,rfl,.int m⟩
 ·match n,e1,l,e2 with
  | 0,_,0,_=>exact hn rfl
  | 0,_,1,_=>cases v2
  | 1,e1,_,_=>cases e1;cases m1
 ·match n,e with
  | 0,e=>cases e;exact fun z=>nomatch z
  | 1,e=>cases e;exact fun z=>nomatch z
theorem cO0{p c:Addr}{i j m:Int}(h:aX2 [⟨.par,.lst [.int i,.int j]⟩,⟨.val,.int m⟩] [.ref p,.int m] c):c=p:=by
 obtain⟨n,s,e,mt,ev⟩:=h
 match n,e with
 | 0,_=>cases ev;rfl
 | 1,_=>cases ev
theorem bW7{H H':Hp}{p:Addr}{i j i' j' m:Int}(hp:H' p=some (.lst [.int i',.int j']))(hs:SameBut p H H'):PostOk [⟨.par,.lst [.int i,.int j]⟩,⟨.val,.int m⟩] [.ref p,.int m] H [⟨.par,.lst [.int i',.int j']⟩,⟨.val,.int m⟩] H':=by
 refine⟨fun n s e mt=>?_,fun c o e n=>hs c o (fun z=>n ⟨0,_,rfl,rfl,by rw[z];rfl⟩) e,fun c e=>?_⟩
 ·match n,e with
  | 0,e=>cases e;exact⟨_,_,rfl,rfl,rfl,p,rfl,_,hp,qG [i',j']⟩
  | 1,e=>cases e;cases mt
 ·cases e2:H c with
  | none=>rfl
  | some o=>
    by_cases z:c=p
    ·subst z;rw[hp]at e;cases e
    ·rw[hs c o z e2]at e;cases e
theorem bW8{H H':Hp}{p:Addr}{i j i' j' m:Int}(po:PostOk [⟨.par,.lst [.int i,.int j]⟩,⟨.val,.int m⟩] [.ref p,.int m] H [⟨.par,.lst [.int i',.int j']⟩,⟨.val,.int m⟩] H'):bS H' p/\SameBut p H H':=by
 refine⟨?_,fun c o n e=>po.fr c o e fun z=>n (cO0 z)⟩
 obtain⟨s',v,e1,_,e3,e4⟩:=po.rel 0 _ rfl rfl
 cases e1;cases e3
 obtain⟨q,eq,xs,hx,hr⟩:=(cZ (s:=⟨.par,.lst [.int i',.int j']⟩) (fun z=>nomatch z)).mp e4
 cases eq
 rw[Rps.ints_inv (ns:=[i',j']) hr]at hx
 exact⟨i',j',hx⟩
theorem wX{K:PySem.W.Frag}(vs:List V)(H:Hp)(Q:L2.VK)(E:XK)(h:bU9 2 cQ vs H Q E):jU K vs H Q E:=by
 obtain⟨as,ao,hl,a,b,k,rfl,k0,k3,q⟩:=h
 obtain⟨v0,e0,r0⟩:=ao.rel 0 _ rfl
 obtain⟨v1,e1,r1⟩:=ao.rel 1 _ rfl
 obtain rfl:=cZ9 ao.len e0 e1
 obtain⟨p,rfl,xs,hp,hr⟩:=(cZ (s:=⟨.par,.lst [.int a,.int b]⟩) (fun z=>nomatch z)).mp r0
 rw[Rps.ints_inv (ns:=[a,b]) hr]at hp
 have r1':Rp H (.int k) v1:=r1
 cases r1'
 refine⟨p,k,rfl,⟨a,b,hp⟩,k0,k3,fun r zs H' hr ⟨es,h1,h2,h3⟩ l1 l6 hs hb hsb=>?_⟩
 obtain⟨qs,g1,g2,g3⟩:=cD6 zs es h2 h3
 obtain⟨a',b',hp'⟩:=hb
 have gl:qs.length=zs.length:=by rw[← g1,List.length_map]
 refine q qs a' b' ⟨by omega,by omega,fun x hx=>⟨hs _ (by rw[← g1];exact List.mem_map_of_mem hx),g3 x hx⟩⟩ (.ref r) H' (bW7 hp' hsb) (.tup h1 g2)
end Dv
namespace Mr
open PySem L2 Dv
noncomputable def iL:DS:=(cH (fL 2 (bA dQ (bA aB4 (dC (.int 7919)) (aM 1)) (dC (.int 11))))
 (cH (jN (eQ (bA ltA (aM 1) (dCB jL (aC (aM 0) bD)))) (fL 2 (bA ixD (aM 0) (aM 1))) (jN (eQ (bA gtI (dCB jL (aC (aM 0) bD)) (dC (.int 0)))) (fL 2 (bA dQ (aM 2) (bA aB4 (bA aQ9 (bA ixD (aM 0) (bA aQ9 (aM 1) (dCB jL (aC (aM 0) bD)))) (dC (.int 2147483629))) (dC (.int 69623))))) dN))
 (cH (fL 3 (bA dQ (bA aQ9 (bA dQ (bA aB4 (bA aQ9 (aM 2) (dC (.int 2147483629))) (dC (.int 48271))) (bA aB4 (dC (.int 40692)) (aM 1))) (dC (.int 2147483629))) (dC (.int 1))))
 (fZ (yH (aC (dFz (bA aB4 (aM 2) (dCB cC8 (aC (bA geI (aM 2) (bA dH0 (dC (.int 10)) (dC (.int 18)))) bD)))) (aC (dFz (aM 3)) bD)))))))
noncomputable def eV:Dv.Run:=wF 4 iL
noncomputable def gH:DS:=(cH (jN (eQ (bA gtI (bA ixD (aM 0) (dC (.int 0))) (dC (.int 0)))) (cH (fL 2 (bA aQ9 (bA ixD (aM 0) (dC (.int 0))) (aM 1)))
 (cH (cQ1 0 (dC (.int 0)) (bA dD4 (bA ixD (aM 0) (dC (.int 0))) (aM 1)))
 (fZ (aM 2)))) dN)
 (cH (fL 3 (bA aQ9 (bA aB4 (bA ixD (aM 0) (dC (.int 1))) (dC (.int 69623))) (dC (.int 2147483647))))
 (cH (cQ1 0 (dC (.int 1)) (bA dQ (bA aQ9 (bA dQ (bA aB4 (aM 3) (dC (.int 48271))) (dC (.int 30103))) (dC (.int 2147483629))) (dC (.int 1))))
 (fZ (bA aQ9 (bA dD4 (bA dQ (bA aB4 (aM 3) (dC (.int 2147483647))) (bA ixD (aM 0) (dC (.int 1)))) (dC (.int 8191))) (aM 1))))))
noncomputable def aH:Dv.Run:=wF 4 gH
noncomputable def fG:DS:=(cH (fL 2 (dC (.str "abcdefghijklmnopqrstuvwxyz")))
 (cH (fL 3 (aW2 (bJ6 "") (kX [12] (bU6 (aC (bL 2 aH (aC (aM 0) (aC (dC (.int 5)) bD))) bD)) (dgN 12) wD (bA ixD (aM 2) (bL 2 aH (aC (aM 0) (aC (dC (.int 26)) bD)))))))
 (cH (fL 4 (bL 2 aH (aC (aM 0) (aC (bA dQ (dCB jL (aC (aM 3) bD)) (dC (.int 1))) bD))))
 (cH (fL 5 (bL 2 aH (aC (aM 0) (aC (dC (.int 26)) bD))))
 (cH (fL 6 (bL 2 aH (aC (aM 0) (aC (dC (.int 4)) bD))))
 (cH (jN (eQ (bA (eqD false) (aM 6) (dC (.int 2)))) (cH (cJ6 (pM 3 (dW (dgN 7) (dW (dgN 8) (dW (dgN 9) pL)))) (dFz (dSl (dSl (aM 2) (dP (bL 2 aH (aC (aM 0) (aC (dC (.int 24)) bD)))) jM) jM (dP (dC (.int 3))))))
 (cH (fL 10 (yH (aC (dFz (aM 7)) (aC (dFz (bA dQ (aM 7) (aM 8))) (aC (dFz (aM 8)) (aC (dFz (bA dQ (aM 8) (aM 9))) bD))))))
 (fZ (dSl (bA dQ (aM 10) (yH (aC (dFz (aM 9)) (aC (dFz (bA dQ (aM 7) (aM 9))) (aC (dFz (bA dQ (bA dQ (aM 7) (aM 8)) (aM 9))) (aC (dFz (bA dQ (aM 9) (aM 8))) bD)))))) jM (dP (aM 1)))))) dN)
 (cH (fL 11 (yH bD))
 (cH (aQ8 (bU6 (aC (aM 1) bD)) (dgN 12)
 (cH (fL 13 (bA dQ (bA dQ (dSl (aM 3) jM (dP (aM 4))) (bA ixD (aM 2) (bA aQ9 (bA dQ (aM 5) (bA aB4 (dC (.int 5)) (aM 12))) (dC (.int 26))))) (dSl (aM 3) (dP (aM 4)) jM)))
 (aA6 (aO6 "list" 11 dD2 (aC (dFz (bA dQ (aM 13) (bA aB4 (dC (.str "z")) (dCB cC8 (aC (pK (bA (eqD false) (aM 6) (dC (.int 1))) (bA (eqD false) (bA aQ9 (aM 12) (dC (.int 2))) (dC (.int 1)))) bD))))) bD)))))
 (cH (fL 14 (yH (aC (dC (.str "table")) (aC (dC (.str "tree")) (aC (dC (.str "none")) (aC (dC (.str "answer")) (aC (dC (.str "levels")) (aC (dC (.str "looks")) bD))))))))
 (cH (fL 14 (bA dQ (aM 14) (yH (aC (dC (.str "at")) (aC (dC (.str "count")) (aC (dC (.str "ears")) (aC (dC (.str "cover")) (aC (dC (.str "place")) bD))))))))
 (cH (fL 13 (bA ixD (aM 14) (bL 2 aH (aC (aM 0) (aC (dC (.int 11)) bD)))))
 (cH (jN (cJ4 (eQ (bA (eqD false) (bL 2 aH (aC (aM 0) (aC (dC (.int 4)) bD))) (dC (.int 0)))) (eQ (bA (inD true) (aM 13) (aM 11)))) (cQ1 11 (bL 2 aH (aC (aM 0) (aC (aM 1) bD))) (dFz (aM 13))) dN)
 (fZ (aM 11))))))))))))))
noncomputable def fR:Dv.Run:=wF 15 fG
noncomputable def iM:DS:=(fZ (pK (mZ leI leI (dC (.int 1)) (dCB jL (aC (aM 0) bD)) (dC (.int 6))) (dCB cP9 (aC (kX [1] (dIt (aM 0)) (dgN 1) wD (bA (inD false) (aM 1) (dC (.str "abcdefghijklmnopqrstuvwxyz")))) bD))))
noncomputable def eB:Dv.Run:=wF 2 iM
noncomputable def cD:DS:=(fZ (pK (bA (eqD false) (dCB sF (aC (aM 0) bD)) (dCB jL (aC (aM 0) bD))) (dCB cP9 (aC (kX [1] (dIt (aM 0)) (dgN 1) wD (dFz (bL 1 eB (aC (aM 1) bD)))) bD))))
noncomputable def bX:Dv.Run:=wF 2 cD
noncomputable def cR:DS:=(fZ (pK (bL 1 eB (aC (aM 0) bD)) (pK (mZ leI leI (dC (.int 1)) (dCB jL (aC (aM 1) bD)) (dC (.int 4))) (bL 1 bX (aC (aM 1) bD)))))
noncomputable def cK:Dv.Run:=wF 2 cR
noncomputable def gJ:DS:=(fZ (kX [1,2] (dIt (aM 0)) (pM 2 (dW (dgN 1) (dW (dgN 2) pL))) wD (dFz (aM 1))))
noncomputable def fH:Dv.Run:=wF 3 gJ
noncomputable def eN:DS:=(cH (fL 1 (yH bD))
 (cH (aQ8 (dIt (aM 0)) (pM 2 (dW (dgN 2) (dW (dgN 3) pL)))
 (aA6 (aA5 "list" 1 cK6 (aC (kX [4] (dIt (aM 3)) (dgN 4) (eQ (bA (inD true) (aM 4) (aM 1))) (dFz (aM 4))) bD))))
 (fZ (dCB cX9 (aC (aM 1) bD)))))
noncomputable def dX:Dv.Run:=wF 5 eN
noncomputable def cL:DS:=(cH (jN (dOr (bO1 (eQ (bL 2 cK (aC (aM 1) (aC (aM 2) bD))))) (eQ (bA (inD false) (aM 1) (bL 1 fH (aC (aM 0) bD))))) (fZ (dC (.bl false))) dN)
 (fZ (bA leI (dCB jL (aC (bL 1 dX (aC (bA dQ (aM 0) (lZ (aC (lZ (aC (dFz (aM 1)) (aC (dFz (aM 2)) bD))) bD))) bD)) bD)) (dC (.int 6)))))
noncomputable def cE:Dv.Run:=wF 3 cL
noncomputable def sG:DS:=(cH (jN (eQ (bA (eqD false) (dCB jL (aC (aM 0) bD)) (dC (.int 0)))) (rS "BadQuestion" "at" (aW2 dD1 (dC (.int 1)))) dN)
 (cH (aQ8 (bV9 (aM 0)) (pM 2 (dW (dgN 1) (dW (dgN 2) pL)))
 (jN (dOr (eQ (bA (eqD false) (aM 1) (dC (.int 6)))) (bO1 (eQ (bL 3 cE (aC (dSl (aM 0) jM (dP (aM 1))) (aC (bA ixD (aM 2) (dC (.int 0))) (aC (bA ixD (aM 2) (dC (.int 1))) bD))))))) (rS "BadQuestion" "at" (aM 1)) dN))
 (fZ (dC (.bl true)))))
noncomputable def nQ:Dv.cQ2:=dD5 3 sG
noncomputable def dY:DS:=(cH (fL 1 (kX [2] (dIt (aM 0)) (dgN 2) (eQ (bA (inD false) (aM 2) (dC (.str "abcdefghijklmnopqrstuvwxyz")))) (dFz (aM 2))))
 (fZ (pK (bA (eqD false) (dCB jL (aC (aM 1) bD)) (dCB jL (aC (aM 0) bD))) (mZ ltA ltA (dC (.int 0)) (dCB jL (aC (aM 0) bD)) (dC (.int 7))))))
noncomputable def dF:Dv.Run:=wF 3 dY
noncomputable def dZ:DS:=(cH (fL 1 (yH bD))
 (cH (aQ8 (dIt (aM 0)) (pM 2 (dW (dgN 2) (dW (dgN 3) pL)))
 (aA6 (aA5 "list" 1 cK6 (aC (kX [4] (dIt (aM 3)) (dgN 4) (eQ (bA (inD true) (aM 4) (aM 1))) (dFz (aM 4))) bD))))
 (fZ (aM 1))))
noncomputable def dG:Dv.Run:=wF 5 dZ
noncomputable def iN:DS:=(cH (aQ8 (bU6 (aC (dCB bV0 (aC (dC (.int 6)) (aC (dCB jL (aC (aM 0) bD)) bD))) bD)) (dgN 1)
 (cH (cJ6 (pM 2 (dW (dgN 2) (dW (dgN 3) pL))) (bA ixD (aM 0) (aM 1)))
 (cH (fL 4 (kX [5] (dIt (dSl (aM 0) jM (dP (bA dQ (aM 1) (dC (.int 1)))))) (dgN 5) wD (bA ixD (aM 5) (dC (.int 0)))))
 (cH (jN (eQ (bA gtI (aO6 "list" 4 dD7 (aC (dFz (aM 2)) bD)) (dC (.int 1)))) (fZ (aM 1)) dN)
 (cH (jN (bO1 (eQ (dCB cP9 (aC (kX [6] (dIt (bA dQ (lZ (aC (dFz (aM 2)) bD)) (aM 3))) (dgN 6) wD (dFz (bL 1 dF (aC (aM 6) bD)))) bD)))) (fZ (aM 1)) dN)
 (cH (jN (dOr (bO1 (eQ (mZ ltA ltA (dC (.int 0)) (dCB jL (aC (aM 3) bD)) (dC (.int 5))))) (eQ (bA ltA (dCB sF (aC (aM 3) bD)) (dCB jL (aC (aM 3) bD))))) (fZ (aM 1)) dN)
 (jN (eQ (bA gtI (dCB jL (aC (bL 1 dG (aC (dSl (aM 0) jM (dP (bA dQ (aM 1) (dC (.int 1))))) bD)) bD)) (dC (.int 6)))) (fZ (aM 1)) dN)))))))
 (cH (jN (eQ (bA (eqD false) (dCB jL (aC (aM 0) bD)) (dC (.int 0)))) (fZ (aW2 dD1 (dC (.int 1)))) dN)
 (cH (jN (eQ (bA gtI (dCB jL (aC (aM 0) bD)) (dC (.int 6)))) (fZ (dC (.int 6))) dN)
 (fZ (dC .non)))))
noncomputable def gK:Dv.Run:=wF 7 iN
noncomputable def fJ:DS:=(fZ (pK (aW2 (cQ0 "int") (aM 0)) (bT9 (aW2 (cQ0 "bool") (aM 0)))))
noncomputable def eO:Dv.Run:=wF 1 fJ
noncomputable def fK:DS:=(cH (fL 1 (dC .non))
 (cH (fL 2 (dC .non))
 (cH (bW2 2 3 4 1 1 nQ (aC (aM 0) bD) "BadQuestion" "at")
 (cH (fL 5 (bL 1 gK (aC (aM 0) bD)))
 (cH (jN (eQ (bA (isD false) (aM 5) (dC .non))) (fZ (pK (bA (isD false) (aM 1) (dC .non)) (bA (isD false) (aM 2) (dC (.bl true))))) dN)
 (fZ (pK (bA (eqD false) (aM 1) (lZ (aC (dC (.bl true)) (aC (dFz (aM 5)) bD)))) (bL 1 eO (aC (bA ixD (aM 1) (dC (.int 1))) bD)))))))))
noncomputable def cX:Dv.Run:=wF 6 fK
noncomputable def cM:DS:=(cH (fL 2 (bL 2 aH (aC (aM 0) (aC (dC (.int 7)) bD))))
 (cH (fL 3 (bL 2 aH (aC (aM 0) (aC (bA dQ (dCB jL (aC (aM 1) bD)) (dC (.int 1))) bD))))
 (cH (jN (eQ (bA (eqD false) (aM 2) (dC (.int 0)))) (fZ (lZ bD)) dN)
 (cH (jN (cJ4 (eQ (bA (eqD false) (aM 2) (dC (.int 1)))) (eQ (bA gtI (dCB jL (aC (aM 1) bD)) (dC (.int 0))))) (fZ (bA dQ (bA dQ (dSl (aM 1) jM (dP (aM 3))) (dSl (aM 1) jM (dP (dC (.int 1))))) (dSl (aM 1) (dP (aM 3)) jM))) dN)
 (cH (jN (eQ (bA (eqD false) (aM 2) (dC (.int 2)))) (cH (fL 4 (bA ixD (yH (aC (dC (.str "")) (aC (dC (.str "abcdefg")) (aC (dC (.str "A")) (aC (dC (.str "b2")) (aC (dC (.str "a b")) (aC (dC (.str "x_")) (aC (dC (.str "ab\n")) bD)))))))) (bL 2 aH (aC (aM 0) (aC (dC (.int 7)) bD)))))
 (fZ (bA dQ (bA dQ (dSl (aM 1) jM (dP (aM 3))) (lZ (aC (dFz (aM 4)) bD))) (dSl (aM 1) (dP (bA dQ (aM 3) (dC (.int 1)))) jM)))) dN)
 (cH (jN (eQ (bA (eqD false) (aM 2) (dC (.int 3)))) (fZ (dSl (lZ (aC (dC (.str "va")) (aC (dC (.str "vb")) (aC (dC (.str "vc")) (aC (dC (.str "vd")) (aC (dC (.str "ve")) bD)))))) jM (dP (bA dQ (dC (.int 4)) (bL 2 aH (aC (aM 0) (aC (dC (.int 2)) bD))))))) dN)
 (fZ (dSl (bA dQ (aM 1) (dSl (lZ (aC (dC (.str "wa")) (aC (dC (.str "wb")) (aC (dC (.str "wc")) bD)))) jM (dP (bA dQ (dC (.int 1)) (bL 2 aH (aC (aM 0) (aC (dC (.int 3)) bD))))))) jM (dP (bA dQ (dC (.int 4)) (dCB cC8 (aC (bA (eqD false) (aM 2) (dC (.int 4))) bD))))))))))))
noncomputable def bP:Dv.Run:=wF 5 cM
noncomputable def eA:DS:=(cH (fL 2 (bL 2 aH (aC (aM 0) (aC (bA dQ (dCB jL (aC (aM 1) bD)) (dC (.int 1))) bD))))
 (cH (fL 3 (bL 2 aH (aC (aM 0) (aC (dC (.int 6)) bD))))
 (cH (jN (dOr (eQ (bA (eqD false) (aM 3) (dC (.int 0)))) (eQ (bA (eqD false) (dCB jL (aC (aM 1) bD)) (dC (.int 0))))) (cH (fL 4 (dSl (lZ (aC (dC (.str "va")) (aC (dC (.str "vb")) bD))) jM (dP (bA dQ (dC (.int 1)) (bL 2 aH (aC (aM 0) (aC (dC (.int 2)) bD)))))))
 (cH (jN (eQ (bA gtI (dCB jL (aC (aM 1) bD)) (dC (.int 0)))) (fL 4 (bA ixD (bA ixD (aM 1) (bL 2 aH (aC (aM 0) (aC (dCB jL (aC (aM 1) bD)) bD)))) (dC (.int 1)))) dN)
 (cH (fL 5 (bA ixD (yH (aC (dC (.str "spare")) (aC (dC (.str "other")) bD))) (bL 2 aH (aC (aM 0) (aC (dC (.int 2)) bD)))))
 (cH (jN (cJ4 (eQ (bA gtI (dCB jL (aC (aM 1) bD)) (dC (.int 0)))) (eQ (bA (eqD false) (bL 2 aH (aC (aM 0) (aC (dC (.int 2)) bD))) (dC (.int 0))))) (fL 5 (bA ixD (bA ixD (aM 1) (bL 2 aH (aC (aM 0) (aC (dCB jL (aC (aM 1) bD)) bD)))) (dC (.int 0)))) dN)
 (fZ (bA dQ (bA dQ (dSl (aM 1) jM (dP (aM 2))) (lZ (aC (lZ (aC (dFz (aM 5)) (aC (dFz (aM 4)) bD))) bD))) (dSl (aM 1) (dP (aM 2)) jM))))))) dN)
 (cH (fL 2 (bL 2 aH (aC (aM 0) (aC (dCB jL (aC (aM 1) bD)) bD))))
 (cH (cJ6 (pM 2 (dW (dgN 5) (dW (dgN 4) pL))) (bA ixD (aM 1) (aM 2)))
 (cH (jN (eQ (bA (eqD false) (aM 3) (dC (.int 1)))) (fZ (lZ bD)) dN)
 (cH (jN (eQ (bA (eqD false) (aM 3) (dC (.int 2)))) (cH (fL 5 (bA ixD (yH (aC (dC (.str "")) (aC (dC (.str "abcdefg")) (aC (dC (.str "T")) (aC (dC (.str "a 1")) (aC (dC (.str "x\n")) (aC (dC (.str "t2")) bD))))))) (bL 2 aH (aC (aM 0) (aC (dC (.int 6)) bD)))))
 (fZ (bA dQ (bA dQ (dSl (aM 1) jM (dP (aM 2))) (lZ (aC (lZ (aC (dFz (aM 5)) (aC (dFz (aM 4)) bD))) bD))) (dSl (aM 1) (dP (bA dQ (aM 2) (dC (.int 1)))) jM)))) dN)
 (fZ (bA dQ (bA dQ (dSl (aM 1) jM (dP (aM 2))) (lZ (aC (lZ (aC (dFz (aM 5)) (aC (dFz (bL 2 bP (aC (aM 0) (aC (aM 4) bD)))) bD))) bD))) (dSl (aM 1) (dP (bA dQ (aM 2) (dC (.int 1)))) jM))))))))))
noncomputable def dH:Dv.Run:=wF 6 eA
noncomputable def uC:MS:=(dD8 (RS (fL 1 (bL 2 eV (aC (aM 0) (aC (dC (.int 0)) bD)))))
 (dD8 (cN6 2 2 cQ (aC (aM 1) (aC (dC (.int 3)) bD)))
 (RS (cH (jN (bO1 (eQ (bL 1 cX (aC (aM 2) bD)))) (fZ (dC (.bl false))) dN)
 (cH (aQ8 (bU6 (aC (dC (.int 1)) (aC (dC (.int 4)) bD))) (dgN 3)
 (cH (fL 1 (bL 2 eV (aC (aM 0) (aC (aM 3) bD))))
 (cH (fL 4 (dFz (aM 2)))
 (cH (aQ8 (bU6 (aC (bA dQ (dC (.int 1)) (bL 2 aH (aC (aM 1) (aC (dC (.int 2)) bD)))) bD)) (dgN 5)
 (fL 4 (bL 2 dH (aC (aM 1) (aC (aM 4) bD)))))
 (jN (dOr (bO1 (eQ (bL 1 cX (aC (aM 4) bD)))) (bO1 (eQ (bL 1 cX (aC (aM 2) bD))))) (fZ (dC (.bl false))) dN)))))
 (fZ (dC (.bl true))))))))
noncomputable def sH:MC:=dD0 6 uC
theorem aF6:bO2 uC:=(aF5 aL3 (aF5 (aL4 cZ8) aL3))
open PySem L2 Dv
section
variable{P:Program}{w:World}{K:PySem.W.Frag}{mg:Str->Option Value}{base:Heap}{a:Adr}
theorem aQ0(T:Txt K mg a):FnOk P w K mg base CX0 1 a.law_box a.fd_law_box ["_law_script","_law_k"] (dsp 2 eV):=by
 refine dO T.F_law_box tV (by decide) iL (fun cdv A outer s H E hr=>?_)
 have nd:=tV.nd
 unfold iL
 exact(aJ (bF (i:=2) nd rfl (Or.inl rfl) (aT aY aZ (aT gX gY ge_int (aB (pv 1))) ge_int))
  (aJ (fB (cG (uB hr.units0) oK (aB (pv 1)) (dA bO (fun Γ=>aO aR (by rfl) T.n_len aX (gA (aA (aB (pv 0)) aI) Γ))) (bC _)) (aS (bF (i:=2) nd rfl (Or.inl rfl) (gC (aB (pv 0)) (aB (pv 1)) (fun _ _=>rfl)))) (aS (fB (cG pI kD (dA bO (fun Γ=>aO aR (by rfl) T.n_len aX (gA (aA (aB (pv 0)) aI) Γ))) ge_int (bC _)) (aS (bF (i:=2) nd rfl (Or.inl rfl) (aT aY aZ (aB (pv 2)) (aT gX gY (aT fV gW (gC (aB (pv 0)) (aT fV gW (aB (pv 1)) (dA bO (fun Γ=>aO aR (by rfl) T.n_len aX (gA (aA (aB (pv 0)) aI) Γ)))) (fun _ _=>rfl)) ge_int) ge_int)))) bV)))
  (aJ (bF (i:=3) nd rfl (Or.inl rfl) (aT aY aZ (aT fV gW (aT aY aZ (aT gX gY (aT fV gW (aB (pv 2)) ge_int) ge_int) (aT gX gY ge_int (aB (pv 1)))) ge_int) ge_int))
  (aS (bM (jY (aA (dU (aT gX gY (aB (pv 2)) (dA aB6 (fun Γ=>dD qV (by rfl) T.n_int qN (gA (aA (jX dF0 cK2 (aB (pv 2)) (aT cS7 cK1 ge_int ge_int) (bC _)) aI) Γ))))) (aA (dU (aB (pv 3))) aI))))))))
theorem aF7(T:Txt K mg a):FnOk P w K mg base CX0 1 a.law_take a.fd_law_take ["_law_box_here","_law_many"] (dsp 2 aH):=by
 refine dO T.F_law_take jA (by decide) gH (fun cdv A outer s H E hr=>?_)
 have nd:=jA.nd
 unfold gH
 exact(aJ (fB (cG pI kD (gC (aB (pv 0)) ge_int (fun _ _=>rfl)) ge_int (bC _)) (aJ (bF (i:=2) nd rfl (Or.inl rfl) (aT fV gW (gC (aB (pv 0)) ge_int (fun _ _=>rfl)) (aB (pv 1))))
  (aJ (aY3 (k:=0) (fun Γ=>oN (gE (aT aK4 aY5 (gC (aB (pv 0)) ge_int (fun _ _=>rfl)) (aB (pv 1))) Γ) (xG (pv 0) (gE ge_int Γ) mG)))
  (aS (bM (aB (pv 2)))))) bV)
  (aJ (bF (i:=3) nd rfl (Or.inl rfl) (aT fV gW (aT gX gY (gC (aB (pv 0)) ge_int (fun _ _=>rfl)) ge_int) ge_int))
  (aJ (aY3 (k:=0) (fun Γ=>oN (gE (aT aY aZ (aT fV gW (aT aY aZ (aT gX gY (aB (pv 3)) ge_int) ge_int) ge_int) ge_int) Γ) (xG (pv 0) (gE ge_int Γ) mG)))
  (aS (bM (aT fV gW (aT aK4 aY5 (aT aY aZ (aT gX gY (aB (pv 3)) ge_int) (gC (aB (pv 0)) ge_int (fun _ _=>rfl))) ge_int) (aB (pv 1))))))))
theorem zB(T:Txt K mg a)(G_law_take:FnOk P w K mg base CX0 1 a.law_take a.fd_law_take ["_law_box_here","_law_many"] (dsp 2 aH)):FnOk P w K mg base CX0 2 a.law_names a.fd_law_names ["_law_box_here","_law_many"] (dsp 2 fR):=by
 refine dO T.F_law_names pC (by decide) fG (fun cdv A outer s H E hr=>?_)
 have nd:=pC.nd
 unfold fG
 exact(aJ (bF (i:=2) nd rfl (Or.inr rfl) bJ)
  (aJ (bF (i:=3) nd rfl (Or.inl rfl) (cM5 (sep:="") K (fun Γ=>hX K (by rfl) PySem.F.plainAttrs_str PySem.F.slot_str_join PySem.F.type_str_join (bV5 K (by rfl)) aR2 (gA (aA (lQ (ow:=[12]) (bN (by decide)) (fun Γ=>iQ (csc [12] (by kernel_rfl)) (gI (wC (fun Γ=>eW (by rfl) T.n_range (gA (aA (bB (fun Γ=>aK G_law_take (hr.mono (by decide)) (by rfl) T.m_law_take T.F_law_take.kp (aL T) .nil bE (gA (aA (aB (pv 0)) (aA ge_int aI)) Γ))) aI) Γ)) len1) Γ) (fun _ _ _ _=>(bG (i:=12) nd rfl (Or.inl rfl) (.inr rfl))) (cI (by decide)) (fun _ _ _ _=>kR) (fun _ _ _ _=>gE (gC (aB (pv 2)) (bB (fun Γ=>aK G_law_take (hr.mono (by decide)) (by rfl) T.m_law_take T.F_law_take.kp (aL T) .nil bE (gA (aA (aB (pv 0)) (aA ge_int aI)) Γ))) (fun _ _=>rfl)) Γ))) aI) Γ))))
  (aJ (bF (i:=4) nd rfl (Or.inl rfl) (bB (fun Γ=>aK G_law_take (hr.mono (by decide)) (by rfl) T.m_law_take T.F_law_take.kp (aL T) .nil bE (gA (aA (aB (pv 0)) (aA (aT aY aZ (dA bO (fun Γ=>aO aR (by rfl) T.n_len aX (gA (aA (aB (pv 3)) aI) Γ))) ge_int) aI)) Γ))))
  (aJ (bF (i:=5) nd rfl (Or.inl rfl) (bB (fun Γ=>aK G_law_take (hr.mono (by decide)) (by rfl) T.m_law_take T.F_law_take.kp (aL T) .nil bE (gA (aA (aB (pv 0)) (aA ge_int aI)) Γ))))
  (aJ (bF (i:=6) nd rfl (Or.inl rfl) (bB (fun Γ=>aK G_law_take (hr.mono (by decide)) (by rfl) T.m_law_take T.F_law_take.kp (aL T) .nil bE (gA (aA (aB (pv 0)) (aA ge_int aI)) Γ))))
  (aJ (fB (cG (eE hr.units) (eF (neg:=false)) (aB (pv 6)) ge_int (bC _)) (aJ (aX0 (own:=[7,8,9]) (rG (cW (bN (by decide)) (cW (bN (by decide)) (cW (bN (by decide)) lP)))) (fun Γ=>oN (gE (dU (bK (bK (aB (pv 2)) (cC (bB (fun Γ=>aK G_law_take (hr.mono (by decide)) (by rfl) T.m_law_take T.F_law_take.kp (aL T) .nil bE (gA (aA (aB (pv 0)) (aA ge_int aI)) Γ)))) cB) cB (cC ge_int))) Γ) (iW (n:=3) K rfl rfl (cU (bG (i:=7) nd rfl (Or.inl rfl)) (cU (bG (i:=8) nd rfl (Or.inl rfl)) (cU (bG (i:=9) nd rfl (Or.inl rfl)) lK))))))
  (aJ (bF (i:=10) nd rfl (Or.inl rfl) (jY (aA (dU (aB (pv 7))) (aA (dU (aT aY aZ (aB (pv 7)) (aB (pv 8)))) (aA (dU (aB (pv 8))) (aA (dU (aT aY aZ (aB (pv 8)) (aB (pv 9)))) aI))))))
  (aS (bM (bK (aT aY aZ (aB (pv 10)) (jY (aA (dU (aB (pv 9))) (aA (dU (aT aY aZ (aB (pv 7)) (aB (pv 9)))) (aA (dU (aT aY aZ (aT aY aZ (aB (pv 7)) (aB (pv 8))) (aB (pv 9)))) (aA (dU (aT aY aZ (aB (pv 9)) (aB (pv 8)))) aI)))))) cB (cC (aB (pv 1)))))))) bV)
  (aJ (bF (i:=11) nd rfl (Or.inl rfl) (jY aI))
  (aJ (rJ (own:=[12]) (bN (by decide)) (fun Γ=>jO PassesOwn.never rfl (gI (wC (fun Γ=>eW (by rfl) T.n_range (gA (aA (aB (pv 1)) aI) Γ)) len1) Γ) (bG (i:=12) nd rfl (Or.inl rfl))
  (gSs (aJ (bF (i:=13) nd rfl (Or.inl rfl) (aT aY aZ (aT aY aZ (bK (aB (pv 3)) cB (cC (aB (pv 4)))) (gC (aB (pv 2)) (aT fV gW (aT aY aZ (aB (pv 5)) (aT gX gY ge_int (aB (pv 12)))) ge_int) (fun _ _=>rfl))) (bK (aB (pv 3)) (cC (aB (pv 4))) cB)))
  (aS (aA7 (aW7 cK5 (fun Γ=>hX K (by rfl) PySem.F.plainAttrs_list PySem.F.slot_list_append PySem.F.type_list_append fW (pv 11) (gA (aA (dU (aT aY aZ (aB (pv 13)) (aT gX gY bJ (dA aB6 (fun Γ=>dD qV (by rfl) T.n_int qN (gA (aA (mY (jX (eE hr.units) (eF (neg:=false)) (aB (pv 6)) ge_int (bC _)) (oV (jX (eE hr.units) (eF (neg:=false)) (aT fV gW (aB (pv 12)) ge_int) ge_int (bC _)))) aI) Γ)))))) aI) Γ)))))) Γ)))
  (aJ (bF (i:=14) nd rfl (Or.inl rfl) (jY (aA bJ (aA bJ (aA bJ (aA bJ (aA bJ (aA bJ aI))))))))
  (aJ (bF (i:=14) nd rfl (Or.inl rfl) (aT aY aZ (aB (pv 14)) (jY (aA bJ (aA bJ (aA bJ (aA bJ (aA bJ aI))))))))
  (aJ (bF (i:=13) nd rfl (Or.inl rfl) (gC (aB (pv 14)) (bB (fun Γ=>aK G_law_take (hr.mono (by decide)) (by rfl) T.m_law_take T.F_law_take.kp (aL T) .nil bE (gA (aA (aB (pv 0)) (aA ge_int aI)) Γ))) (fun _ _=>rfl)))
  (aJ (fB (GW.gt (aW3 (cG (eE hr.units) (eF (neg:=false)) (bB (fun Γ=>aK G_law_take (hr.mono (by decide)) (by rfl) T.m_law_take T.F_law_take.kp (aL T) .nil bE (gA (aA (aB (pv 0)) (aA ge_int aI)) Γ))) ge_int (bC _)) (aA3 (cG (rP hr.units) (tR (neg:=true)) (aB (pv 13)) (aB (pv 11)) (by with_unfolding_all rfl))))) (aS (aY3 (k:=11) (fun Γ=>oN (gE (dU (aB (pv 13))) Γ) (xG (pv 11) (gE (bB (fun Γ=>aK G_law_take (hr.mono (by decide)) (by rfl) T.m_law_take T.F_law_take.kp (aL T) .nil bE (gA (aA (aB (pv 0)) (aA (aB (pv 1)) aI)) Γ))) Γ) mG)))) bV)
  (aS (bM (aB (pv 11))))))))))))))))
theorem aQ1(T:Txt K mg a):FnOk P w K mg base CX0 1 a.is_name a.fd_is_name ["text"] (dsp 1 eB):=by
 refine dO T.F_is_name tW (by decide) iM (fun cdv A outer s H E hr=>?_)
 have nd:=tW.nd
 unfold iM
 exact(aS (bM (mY (vY aS5 rL aS5 rL ge_int (dA bO (fun Γ=>aO aR (by rfl) T.n_len aX (gA (aA (aB (pv 0)) aI) Γ))) (qH (by rfl) T.c_LONGEST)) (oV (dA aB5 (fun Γ=>aO (rM K (by rfl) (by rfl)) (by rfl) T.n_all wM (gA (aA (lQ (ow:=[1]) (bN (by decide)) (fun Γ=>iQ (csc [1] (by kernel_rfl)) (gI (lC K (by rfl) (aB (pv 0))) Γ) (fun _ _ _ _=>(bG (i:=1) nd rfl (Or.inl rfl) (.inr rfl))) (cI (by decide)) (fun _ _ _ _=>kR) (fun _ _ _ _=>gE (jX (aY6 hr.units) (tR (neg:=false)) (aB (pv 1)) (bT8 (by rfl) T.c_LETTERS) (by with_unfolding_all rfl)) Γ))) aI) Γ)))))))
theorem lT(T:Txt K mg a)(G_is_name:FnOk P w K mg base CX0 1 a.is_name a.fd_is_name ["text"] (dsp 1 eB)):FnOk P w K mg base CX0 2 a.are_unlike_names a.fd_are_unlike_names ["texts"] (dsp 1 bX):=by
 refine dO T.F_are_unlike_names gF (by decide) cD (fun cdv A outer s H E hr=>?_)
 have nd:=gF.nd
 unfold cD
 exact(aS (bM (mY (jX (eE hr.units) (eF (neg:=false)) (dA uA (fun Γ=>aL2 (id:="len") (U:="set") (sE rfl) (by rfl) T.n_len aX (by rfl) T.n_set aK9 (gA (aA (aB (pv 0)) aI) Γ))) (dA bO (fun Γ=>aO aR (by rfl) T.n_len aX (gA (aA (aB (pv 0)) aI) Γ))) (bC _)) (oV (dA aB5 (fun Γ=>aO (rM K (by rfl) (by rfl)) (by rfl) T.n_all wM (gA (aA (lQ (ow:=[1]) (bN (by decide)) (fun Γ=>iQ (csc [1] (by kernel_rfl)) (gI (lC K (by rfl) (aB (pv 0))) Γ) (fun _ _ _ _=>(bG (i:=1) nd rfl (Or.inl rfl) (.inr rfl))) (cI (by decide)) (fun _ _ _ _=>kR) (fun _ _ _ _=>gE (dU (bB (fun Γ=>aK G_is_name (hr.mono (by decide)) (by rfl) T.m_is_name T.F_is_name.kp (yW T) .nil bE (gA (aA (aB (pv 1)) aI) Γ)))) Γ))) aI) Γ)))))))
theorem oM(T:Txt K mg a)(G_is_name:FnOk P w K mg base CX0 1 a.is_name a.fd_is_name ["text"] (dsp 1 eB))(G_are_unlike_names:FnOk P w K mg base CX0 2 a.are_unlike_names a.fd_are_unlike_names ["texts"] (dsp 1 bX)):FnOk P w K mg base CX0 3 a.is_right_alone a.fd_is_right_alone ["name","columns"] (dsp 2 cK):=by
 refine dO T.F_is_right_alone iK (by decide) cR (fun cdv A outer s H E hr=>?_)
 have nd:=iK.nd
 unfold cR
 exact(aS (bM (mY (bB (fun Γ=>aK G_is_name (hr.mono (by decide)) (by rfl) T.m_is_name T.F_is_name.kp (yW T) .nil bE (gA (aA (aB (pv 0)) aI) Γ))) (mY (vY aS5 rL aS5 rL ge_int (dA bO (fun Γ=>aO aR (by rfl) T.n_len aX (gA (aA (aB (pv 1)) aI) Γ))) (qH (by rfl) T.c_WIDEST)) (oV (bB (fun Γ=>aK G_are_unlike_names (hr.mono (by decide)) (by rfl) T.m_are_unlike_names T.F_are_unlike_names.kp (nM T) .nil bE (gA (aA (aB (pv 1)) aI) Γ))))))))
theorem aF8(T:Txt K mg a):FnOk P w K mg base CX0 1 a.names_of a.fd_names_of ["question"] (dsp 1 fH):=by
 refine dO T.F_names_of sC (by decide) gJ (fun cdv A outer s H E hr=>?_)
 have nd:=sC.nd
 unfold gJ
 exact(aS (bM (lQ (ow:=[1,2]) (rG (cW (bN (by decide)) (cW (bN (by decide)) lP))) (fun Γ=>iQ (csc [1,2] (by kernel_rfl)) (gI (lC K (by rfl) (aB (pv 0))) Γ) (fun _ _ _ _=>(iW (n:=2) K rfl rfl (cU (bG (i:=1) nd rfl (Or.inl rfl) (.inr rfl)) (cU (bG (i:=2) nd rfl (Or.inl rfl) (.inr rfl)) lK)))) (aU6 (tH (cI (by decide)) (tH (cI (by decide)) aT7 tI) tI)) (fun _ _ _ _=>kR) (fun _ _ _ _=>gE (dU (aB (pv 1))) Γ)))))
theorem wY(T:Txt K mg a):FnOk P w K mg base CX0 1 a.columns_of a.fd_columns_of ["question"] (dsp 1 dX):=by
 refine dO T.F_columns_of nL (by decide) eN (fun cdv A outer s H E hr=>?_)
 have nd:=nL.nd
 unfold eN
 exact(aJ (bF (i:=1) nd rfl (Or.inr rfl) (jY aI))
  (aJ (rJ (own:=[2,3]) (rG (cW (bN (by decide)) (cW (bN (by decide)) lP))) (fun Γ=>jO PassesOwn.never rfl (gI (lC K (by rfl) (aB (pv 0))) Γ) (iW (n:=2) K rfl rfl (cU (bG (i:=2) nd rfl (Or.inl rfl)) (cU (bG (i:=3) nd rfl (Or.inl rfl)) lK)))
  (gSs (aS (aA7 (aW8 aY2 (fun Γ=>hX K (by rfl) PySem.F.plainAttrs_list PySem.F.slot_list_extend PySem.F.type_list_extend aY1 (pv 1) (gA (aA (lQ (ow:=[4]) (bN (by decide)) (fun Γ=>iQ (csc [4] (by kernel_rfl)) (gI (lC K (by rfl) (aB (pv 3))) Γ) (fun _ _ _ _=>(bG (i:=4) nd rfl (Or.inl rfl) (.inr rfl))) (cI (by decide)) (fun _ _ _ _=>(wE (cG (rP hr.units) (tR (neg:=true)) (aB (pv 4)) (aB (pv 1)) (by with_unfolding_all rfl)))) (fun _ _ _ _=>gE (dU (aB (pv 4))) Γ))) aI) Γ))))) Γ)))
  (aS (bM (dA cK4 (fun Γ=>dD mP (by rfl) T.n_tuple iH (gA (aA (aB (pv 1)) aI) Γ)))))))
theorem nR(T:Txt K mg a)(G_is_right_alone:FnOk P w K mg base CX0 3 a.is_right_alone a.fd_is_right_alone ["name","columns"] (dsp 2 cK))(G_names_of:FnOk P w K mg base CX0 1 a.names_of a.fd_names_of ["question"] (dsp 1 fH))(G_columns_of:FnOk P w K mg base CX0 1 a.columns_of a.fd_columns_of ["question"] (dsp 1 dX)):FnOk P w K mg base CX0 4 a.is_right_behind a.fd_is_right_behind ["ahead","name","columns"] (dsp 3 cE):=by
 refine dO T.F_is_right_behind gQ (by decide) cL (fun cdv A outer s H E hr=>?_)
 have nd:=gQ.nd
 unfold cL
 exact(aJ (fB (GW.gt (aW4 (rE (tM (bB (fun Γ=>aK G_is_right_alone (hr.mono (by decide)) (by rfl) T.m_is_right_alone T.F_is_right_alone.kp (pR T) .nil bE (gA (aA (aB (pv 1)) (aA (aB (pv 2)) aI)) Γ))))) (yG (cG (aY6 hr.units) (tR (neg:=false)) (aB (pv 1)) (bB (fun Γ=>aK G_names_of (hr.mono (by decide)) (by rfl) T.m_names_of T.F_names_of.kp (aP4 T) .nil bE (gA (aA (aB (pv 0)) aI) Γ))) (by with_unfolding_all rfl))))) (aS (bM aA1)) bV)
  (aS (bM (jX aS5 rL (dA bO (fun Γ=>aO aR (by rfl) T.n_len aX (gA (aA (bB (fun Γ=>aK G_columns_of (hr.mono (by decide)) (by rfl) T.m_columns_of T.F_columns_of.kp (yX T) .nil bE (gA (aA (aT aY aZ (aB (pv 0)) (fN (aA (fN (aA (dU (aB (pv 1))) (aA (dU (aB (pv 2))) aI))) aI))) aI) Γ))) aI) Γ))) (qH (by rfl) T.c_MOST_COLUMNS) (bC _)))))
theorem cO1(T:Txt K mg a)(G_is_right_behind:FnOk P w K mg base CX0 4 a.is_right_behind a.fd_is_right_behind ["ahead","name","columns"] (dsp 3 cE))(GI_BadQuestion:FnOk P w K mg base CX0 1 a.i_BadQuestion a.fd_i_BadQuestion ["self","at"] (jD K)):FnOk P w K mg base (CXo P w) 5 a.look a.fd_look ["question"] (dD6 K 1 nQ):=by
 refine cM8 T.F_look bK8 (by decide) sG (fun cdv A outer s H E hr=>?_)
 have nd:=bK8.nd
 unfold sG
 exact(aJ (fB (cG (eE hr.units) (eF (neg:=false)) (dA bO (fun Γ=>aO aR (by rfl) T.n_len aX (gA (aA (aB (pv 0)) aI) Γ))) ge_int (bC _)) (aS (yQ (c:="BadQuestion") (f:="at") T.e_BadQuestion T.x_BadQuestion T.na_BadQuestion T.n_BadQuestion (fun Γ=>aJ5 (cB7 T.x_BadQuestion T.fn_BadQuestion T.kp_BadQuestion PySem.F.excBase_ValueError GI_BadQuestion (hr.mono (by decide)) (by rfl) T.m_BadQuestion (lI T) bE (gA (aA (cW6 cA5 aX7 ge_int) aI) Γ))))) bV)
  (aJ (rJ (own:=[1,2]) (rG (cW (bN (by decide)) (cW (bN (by decide)) lP))) (fun Γ=>jO PassesOwn.leaving rfl (gI (cM9 K (fun Γ=>cM7 K (by rfl) (by rfl) T.n_enumerate sT (gA (aA (aB (pv 0)) aI) Γ))) Γ) (iW (n:=2) K rfl rfl (cU (bG (i:=1) nd rfl (Or.inl rfl)) (cU (bG (i:=2) nd rfl (Or.inl rfl)) lK)))
  (gSs (aS (fB (GW.gt (aW4 (cG (eE hr.units) (eF (neg:=false)) (aB (pv 1)) (qH (by rfl) T.c_MOST_TABLES) (bC _)) (yG (rE (tM (bB (fun Γ=>aK G_is_right_behind (hr.mono (by decide)) (by rfl) T.m_is_right_behind T.F_is_right_behind.kp (oG T) .nil bE (gA (aA (bK (aB (pv 0)) cB (cC (aB (pv 1)))) (aA (gC (aB (pv 2)) ge_int (fun _ _=>rfl)) (aA (gC (aB (pv 2)) ge_int (fun _ _=>rfl)) aI))) Γ)))))))) (aS (yQ (c:="BadQuestion") (f:="at") T.e_BadQuestion T.x_BadQuestion T.na_BadQuestion T.n_BadQuestion (fun Γ=>aJ5 (cB7 T.x_BadQuestion T.fn_BadQuestion T.kp_BadQuestion PySem.F.excBase_ValueError GI_BadQuestion (hr.mono (by decide)) (by rfl) T.m_BadQuestion (lI T) bE (gA (aA (aB (pv 1)) aI) Γ))))) bV)) Γ)))
  (aS (bM aA1))))
theorem sW(T:Txt K mg a):FnOk P w K mg base CX0 1 a.law_is_name a.fd_law_is_name ["_law_text"] (dsp 1 dF):=by
 refine dO T.F_law_is_name lF (by decide) dY (fun cdv A outer s H E hr=>?_)
 have nd:=lF.nd
 unfold dY
 exact(aJ (tP (ow:=[2]) (i:=1) (bN (by decide)) (fun Γ=>kM (i:=1) nd rfl rfl (csc [2] (by kernel_rfl)) (gI (lC K (by rfl) (aB (pv 0))) Γ) (fun _ _ _ _=>(bG (i:=2) nd rfl (Or.inl rfl) (.inr rfl))) (cI (by decide)) (fun _ _ _ _=>(wE (cG (aY6 hr.units) (tR (neg:=false)) (aB (pv 2)) bJ (by with_unfolding_all rfl)))) (fun _ _ _ _=>gE (dU (aB (pv 2))) Γ) rfl))
  (aS (bM (mY (jX (eE hr.units) (eF (neg:=false)) (dA bO (fun Γ=>aO aR (by rfl) T.n_len aX (gA (aA (aB (pv 1)) aI) Γ))) (dA bO (fun Γ=>aO aR (by rfl) T.n_len aX (gA (aA (aB (pv 0)) aI) Γ))) (bC _)) (oV (vY (uB hr.units0) oK (uB hr.units0) oK ge_int (dA bO (fun Γ=>aO aR (by rfl) T.n_len aX (gA (aA (aB (pv 0)) aI) Γ))) ge_int))))))
theorem sX(T:Txt K mg a):FnOk P w K mg base CX0 1 a.law_columns a.fd_law_columns ["_law_question_here"] (dsp 1 dG):=by
 refine dO T.F_law_columns lG (by decide) dZ (fun cdv A outer s H E hr=>?_)
 have nd:=lG.nd
 unfold dZ
 exact(aJ (bF (i:=1) nd rfl (Or.inr rfl) (jY aI))
  (aJ (rJ (own:=[2,3]) (rG (cW (bN (by decide)) (cW (bN (by decide)) lP))) (fun Γ=>jO PassesOwn.never rfl (gI (lC K (by rfl) (aB (pv 0))) Γ) (iW (n:=2) K rfl rfl (cU (bG (i:=2) nd rfl (Or.inl rfl)) (cU (bG (i:=3) nd rfl (Or.inl rfl)) lK)))
  (gSs (aS (aA7 (aW8 aY2 (fun Γ=>hX K (by rfl) PySem.F.plainAttrs_list PySem.F.slot_list_extend PySem.F.type_list_extend aY1 (pv 1) (gA (aA (lQ (ow:=[4]) (bN (by decide)) (fun Γ=>iQ (csc [4] (by kernel_rfl)) (gI (lC K (by rfl) (aB (pv 3))) Γ) (fun _ _ _ _=>(bG (i:=4) nd rfl (Or.inl rfl) (.inr rfl))) (cI (by decide)) (fun _ _ _ _=>(wE (cG (rP hr.units) (tR (neg:=true)) (aB (pv 4)) (aB (pv 1)) (by with_unfolding_all rfl)))) (fun _ _ _ _=>gE (dU (aB (pv 4))) Γ))) aI) Γ))))) Γ)))
  (aS (bM (aB (pv 1))))))
theorem aQ2(T:Txt K mg a)(G_law_is_name:FnOk P w K mg base CX0 1 a.law_is_name a.fd_law_is_name ["_law_text"] (dsp 1 dF))(G_law_columns:FnOk P w K mg base CX0 1 a.law_columns a.fd_law_columns ["_law_question_here"] (dsp 1 dG)):FnOk P w K mg base CX0 2 a.law_due a.fd_law_due ["_law_question_here"] (dsp 1 gK):=by
 refine dO T.F_law_due tX (by decide) iN (fun cdv A outer s H E hr=>?_)
 have nd:=tX.nd
 unfold iN
 exact(aJ (rJ (own:=[1]) (bN (by decide)) (fun Γ=>jO PassesOwn.never rfl (gI (wC (fun Γ=>eW (by rfl) T.n_range (gA (aA (dA bV1 (fun Γ=>aO (qU (by rfl)) (by rfl) T.n_min wN (gA (aA ge_int (aA (dA bO (fun Γ=>aO aR (by rfl) T.n_len aX (gA (aA (aB (pv 0)) aI) Γ))) aI)) Γ))) aI) Γ)) len1) Γ) (bG (i:=1) nd rfl (Or.inl rfl))
  (gSs (aJ (aX0 (own:=[2,3]) (rG (cW (bN (by decide)) (cW (bN (by decide)) lP))) (fun Γ=>oN (gE (gC (aB (pv 0)) (aB (pv 1)) (fun _ _=>rfl)) Γ) (iW (n:=2) K rfl rfl (cU (bG (i:=2) nd rfl (Or.inl rfl)) (cU (bG (i:=3) nd rfl (Or.inl rfl)) lK)))))
  (aJ (tP (ow:=[5]) (i:=4) (bN (by decide)) (fun Γ=>kM (i:=4) nd rfl rfl (csc [5] (by kernel_rfl)) (gI (lC K (by rfl) (bK (aB (pv 0)) cB (cC (aT aY aZ (aB (pv 1)) ge_int)))) Γ) (fun _ _ _ _=>(bG (i:=5) nd rfl (Or.inl rfl) (.inr rfl))) (cI (by decide)) (fun _ _ _ _=>kR) (fun _ _ _ _=>gE (gC (aB (pv 5)) ge_int (fun _ _=>rfl)) Γ) rfl))
  (aJ (fB (cG pI kD (aW7 cN4 (fun Γ=>hX K (by rfl) PySem.F.plainAttrs_list PySem.F.slot_list_count PySem.F.type_list_count bW3 (pv 4) (gA (aA (dU (aB (pv 2))) aI) Γ))) ge_int (bC _)) (aS (bM (aB (pv 1)))) bV)
  (aJ (fB (rE (tM (dA aB5 (fun Γ=>aO (rM K (by rfl) (by rfl)) (by rfl) T.n_all wM (gA (aA (lQ (ow:=[6]) (bN (by decide)) (fun Γ=>iQ (csc [6] (by kernel_rfl)) (gI (lC K (by rfl) (aT aY aZ (fN (aA (dU (aB (pv 2))) aI)) (aB (pv 3)))) Γ) (fun _ _ _ _=>(bG (i:=6) nd rfl (Or.inl rfl) (.inr rfl))) (cI (by decide)) (fun _ _ _ _=>kR) (fun _ _ _ _=>gE (dU (bB (fun Γ=>aK G_law_is_name (hr.mono (by decide)) (by rfl) T.m_law_is_name T.F_law_is_name.kp (wO T) .nil bE (gA (aA (aB (pv 6)) aI) Γ)))) Γ))) aI) Γ))))) (aS (bM (aB (pv 1)))) bV)
  (aJ (fB (GW.gt (aW4 (rE (bU0 (uB hr.units0) oK (uB hr.units0) oK ge_int (dA bO (fun Γ=>aO aR (by rfl) T.n_len aX (gA (aA (aB (pv 3)) aI) Γ))) ge_int)) (yG (cG (uB hr.units0) oK (dA uA (fun Γ=>aL2 (id:="len") (U:="set") (sE rfl) (by rfl) T.n_len aX (by rfl) T.n_set aK9 (gA (aA (aB (pv 3)) aI) Γ))) (dA bO (fun Γ=>aO aR (by rfl) T.n_len aX (gA (aA (aB (pv 3)) aI) Γ))) (bC _))))) (aS (bM (aB (pv 1)))) bV)
  (aS (fB (cG pI kD (dA bO (fun Γ=>aO aR (by rfl) T.n_len aX (gA (aA (bB (fun Γ=>aK G_law_columns (hr.mono (by decide)) (by rfl) T.m_law_columns T.F_law_columns.kp (wP T) .nil bE (gA (aA (bK (aB (pv 0)) cB (cC (aT aY aZ (aB (pv 1)) ge_int))) aI) Γ))) aI) Γ))) ge_int (bC _)) (aS (bM (aB (pv 1)))) bV))))))) Γ)))
  (aJ (fB (cG (eE hr.units) (eF (neg:=false)) (dA bO (fun Γ=>aO aR (by rfl) T.n_len aX (gA (aA (aB (pv 0)) aI) Γ))) ge_int (bC _)) (aS (bM (cW6 cA5 aX7 ge_int))) bV)
  (aJ (fB (cG pI kD (dA bO (fun Γ=>aO aR (by rfl) T.n_len aX (gA (aA (aB (pv 0)) aI) Γ))) ge_int (bC _)) (aS (bM ge_int)) bV)
  (aS (bM yE)))))
theorem zC(T:Txt K mg a):FnOk P w K mg base CX0 1 a.law_whole a.fd_law_whole ["_law_found"] (dsp 1 eO):=by
 refine dO T.F_law_whole pE (by decide) fJ (fun cdv A outer s H E hr=>?_)
 have nd:=pE.nd
 unfold fJ
 exact(aS (bM (mY (cC9 (c:="int") K (by decide) (fun Γ=>aO (yN K (by rfl)) (by rfl) T.n_isinstance dE (aD (gE (aB (pv 0)) Γ) (aD (zK (v:=.ty "int") (by rfl) T.n_int qN rfl) aN)))) (oV (cW8 (cC9 (c:="bool") K (by decide) (fun Γ=>aO (yN K (by rfl)) (by rfl) T.n_isinstance dE (aD (gE (aB (pv 0)) Γ) (aD (zK (v:=.ty "bool") (by rfl) T.n_bool bK7 rfl) aN)))))))))
theorem zD(T:Txt K mg a)(G_look:FnOk P w K mg base (CXo P w) 5 a.look a.fd_look ["question"] (dD6 K 1 nQ))(G_law_due:FnOk P w K mg base CX0 2 a.law_due a.fd_law_due ["_law_question_here"] (dsp 1 gK))(G_law_whole:FnOk P w K mg base CX0 1 a.law_whole a.fd_law_whole ["_law_found"] (dsp 1 eO)):FnOk P w K mg base CX0 6 a.law_right a.fd_law_right ["_law_question_here"] (dsp 1 cX):=by
 refine dO T.F_law_right pF (by decide) fK (fun cdv A outer s H E hr=>?_)
 have nd:=pF.nd
 unfold fK
 exact(aJ (bF (i:=1) nd rfl (Or.inl rfl) yE)
  (aJ (bF (i:=2) nd rfl (Or.inl rfl) yE)
  (aJ (cN3 (iF:=2) (iE:=3) (iO:=4) (iR:=1) (c:="BadQuestion") (f:="at") T.n_BadQuestion T.ty_BadQuestion T.ca_BadQuestion T.k1_BadQuestion T.k2_BadQuestion T.k3_BadQuestion T.na_BadQuestion (fun Γ=>cW0 (P:=P) (w:=w) rfl rfl rfl rfl (fun pins E=>(bH (cS (i:=2) nd rfl (Or.inl rfl) (bT6 G_look (hr.mono (by decide)) rfl T.m_look T.F_look.kp (cZ3 T) (gA (aA (aB (pv 0)) aI) Γ)))))
   (dG4 (i:=3) K rfl nd rfl rfl (fun _ _=>(lJ (v:=.ref a.BadQuestion) (by rfl) T.m_BadQuestion rfl)) (fun _ _=>(aW (cS (i:=4) nd rfl (Or.inl rfl) (aR4 (aO (vT K rfl) (by rfl) T.n_isinstance dE (aD (pv 3) (aD (lJ (v:=.ref a.RowsError) (by rfl) T.m_RowsError rfl) aN))) (aR3 (aO (vT K rfl) (by rfl) T.n_isinstance dE (aD (pv 3) (aD (zK (v:=.ty "ValueError") (by rfl) T.n_ValueError sA rfl) aN)))))) (bH (cS (i:=1) nd rfl (Or.inl rfl) (aS8 (aD (aR4 (pv 4) (aR3 (cA3 (aO (vT K rfl) (by rfl) T.n_isinstance dE (aD (pv 3) (aD (aS8 (aD (lJ (v:=.ref a.BadHouse) (by rfl) T.m_BadHouse rfl) (aD (lJ (v:=.ref a.BadTable) (by rfl) T.m_BadTable rfl) (aD (lJ (v:=.ref a.NoRow) (by rfl) T.m_NoRow rfl) aN)))) aN)))))) (aD (dG2 K rfl (pv 3)) aN))))))) cV9)))
  (aJ (bF (i:=5) nd rfl (Or.inl rfl) (bB (fun Γ=>aK G_law_due (hr.mono (by decide)) (by rfl) T.m_law_due T.F_law_due.kp (bK9 T) .nil bE (gA (aA (aB (pv 0)) aI) Γ))))
  (aJ (fB (cG aU0 (aY4 (neg:=false)) (aB (pv 5)) yE (bC _)) (aS (bM (mY (jX aU0 (aY4 (neg:=false)) (aB (pv 1)) yE (bC _)) (oV (jX aU0 (aY4 (neg:=false)) (aB (pv 2)) aA1 (bC _)))))) bV)
  (aS (bM (mY (jX (eE hr.units) (eF (neg:=false)) (aB (pv 1)) (fN (aA aA1 (aA (dU (aB (pv 5))) aI))) (bC _)) (oV (bB (fun Γ=>aK G_law_whole (hr.mono (by decide)) (by rfl) T.m_law_whole T.F_law_whole.kp (aF1 T) .nil bE (gA (aA (gC (aB (pv 1)) ge_int (fun _ _=>rfl)) aI) Γ))))))))))))
theorem nS(T:Txt K mg a)(G_law_take:FnOk P w K mg base CX0 1 a.law_take a.fd_law_take ["_law_box_here","_law_many"] (dsp 2 aH)):FnOk P w K mg base CX0 2 a.law_bad_columns a.fd_law_bad_columns ["_law_box_here","_law_own"] (dsp 2 bP):=by
 refine dO T.F_law_bad_columns gR (by decide) cM (fun cdv A outer s H E hr=>?_)
 have nd:=gR.nd
 unfold cM
 exact(aJ (bF (i:=2) nd rfl (Or.inl rfl) (bB (fun Γ=>aK G_law_take (hr.mono (by decide)) (by rfl) T.m_law_take T.F_law_take.kp (aL T) .nil bE (gA (aA (aB (pv 0)) (aA ge_int aI)) Γ))))
  (aJ (bF (i:=3) nd rfl (Or.inl rfl) (bB (fun Γ=>aK G_law_take (hr.mono (by decide)) (by rfl) T.m_law_take T.F_law_take.kp (aL T) .nil bE (gA (aA (aB (pv 0)) (aA (aT aY aZ (dA bO (fun Γ=>aO aR (by rfl) T.n_len aX (gA (aA (aB (pv 1)) aI) Γ))) ge_int) aI)) Γ))))
  (aJ (fB (cG (eE hr.units) (eF (neg:=false)) (aB (pv 2)) ge_int (bC _)) (aS (bM (fN aI))) bV)
  (aJ (fB (GW.gt (aW3 (cG (eE hr.units) (eF (neg:=false)) (aB (pv 2)) ge_int (bC _)) (aA3 (cG pI kD (dA bO (fun Γ=>aO aR (by rfl) T.n_len aX (gA (aA (aB (pv 1)) aI) Γ))) ge_int (bC _))))) (aS (bM (aT aY aZ (aT aY aZ (bK (aB (pv 1)) cB (cC (aB (pv 3)))) (bK (aB (pv 1)) cB (cC ge_int))) (bK (aB (pv 1)) (cC (aB (pv 3))) cB)))) bV)
  (aJ (fB (cG (eE hr.units) (eF (neg:=false)) (aB (pv 2)) ge_int (bC _)) (aJ (bF (i:=4) nd rfl (Or.inl rfl) (gC (jY (aA bJ (aA bJ (aA bJ (aA bJ (aA bJ (aA bJ (aA bJ aI)))))))) (bB (fun Γ=>aK G_law_take (hr.mono (by decide)) (by rfl) T.m_law_take T.F_law_take.kp (aL T) .nil bE (gA (aA (aB (pv 0)) (aA ge_int aI)) Γ))) (fun _ _=>rfl)))
  (aS (bM (aT aY aZ (aT aY aZ (bK (aB (pv 1)) cB (cC (aB (pv 3)))) (fN (aA (dU (aB (pv 4))) aI))) (bK (aB (pv 1)) (cC (aT aY aZ (aB (pv 3)) ge_int)) cB))))) bV)
  (aJ (fB (cG (eE hr.units) (eF (neg:=false)) (aB (pv 2)) ge_int (bC _)) (aS (bM (bK (fN (aA bJ (aA bJ (aA bJ (aA bJ (aA bJ aI)))))) cB (cC (aT aY aZ ge_int (bB (fun Γ=>aK G_law_take (hr.mono (by decide)) (by rfl) T.m_law_take T.F_law_take.kp (aL T) .nil bE (gA (aA (aB (pv 0)) (aA ge_int aI)) Γ)))))))) bV)
  (aS (bM (bK (aT aY aZ (aB (pv 1)) (bK (fN (aA bJ (aA bJ (aA bJ aI)))) cB (cC (aT aY aZ ge_int (bB (fun Γ=>aK G_law_take (hr.mono (by decide)) (by rfl) T.m_law_take T.F_law_take.kp (aL T) .nil bE (gA (aA (aB (pv 0)) (aA ge_int aI)) Γ))))))) cB (cC (aT aY aZ ge_int (dA aB6 (fun Γ=>dD qV (by rfl) T.n_int qN (gA (aA (jX (eE hr.units) (eF (neg:=false)) (aB (pv 2)) ge_int (bC _)) aI) Γ))))))))))))))
theorem sY(T:Txt K mg a)(G_law_take:FnOk P w K mg base CX0 1 a.law_take a.fd_law_take ["_law_box_here","_law_many"] (dsp 2 aH))(G_law_bad_columns:FnOk P w K mg base CX0 2 a.law_bad_columns a.fd_law_bad_columns ["_law_box_here","_law_own"] (dsp 2 bP)):FnOk P w K mg base CX0 3 a.law_changed a.fd_law_changed ["_law_box_here","_law_question_here"] (dsp 2 dH):=by
 refine dO T.F_law_changed lH (by decide) eA (fun cdv A outer s H E hr=>?_)
 have nd:=lH.nd
 unfold eA
 exact(aJ (bF (i:=2) nd rfl (Or.inl rfl) (bB (fun Γ=>aK G_law_take (hr.mono (by decide)) (by rfl) T.m_law_take T.F_law_take.kp (aL T) .nil bE (gA (aA (aB (pv 0)) (aA (aT aY aZ (dA bO (fun Γ=>aO aR (by rfl) T.n_len aX (gA (aA (aB (pv 1)) aI) Γ))) ge_int) aI)) Γ))))
  (aJ (bF (i:=3) nd rfl (Or.inl rfl) (bB (fun Γ=>aK G_law_take (hr.mono (by decide)) (by rfl) T.m_law_take T.F_law_take.kp (aL T) .nil bE (gA (aA (aB (pv 0)) (aA ge_int aI)) Γ))))
  (aJ (fB (GW.gt (aW4 (cG (eE hr.units) (eF (neg:=false)) (aB (pv 3)) ge_int (bC _)) (yG (cG (eE hr.units) (eF (neg:=false)) (dA bO (fun Γ=>aO aR (by rfl) T.n_len aX (gA (aA (aB (pv 1)) aI) Γ))) ge_int (bC _))))) (aJ (bF (i:=4) nd rfl (Or.inl rfl) (bK (fN (aA bJ (aA bJ aI))) cB (cC (aT aY aZ ge_int (bB (fun Γ=>aK G_law_take (hr.mono (by decide)) (by rfl) T.m_law_take T.F_law_take.kp (aL T) .nil bE (gA (aA (aB (pv 0)) (aA ge_int aI)) Γ)))))))
  (aJ (fB (cG pI kD (dA bO (fun Γ=>aO aR (by rfl) T.n_len aX (gA (aA (aB (pv 1)) aI) Γ))) ge_int (bC _)) (aS (bF (i:=4) nd rfl (Or.inl rfl) (gC (gC (aB (pv 1)) (bB (fun Γ=>aK G_law_take (hr.mono (by decide)) (by rfl) T.m_law_take T.F_law_take.kp (aL T) .nil bE (gA (aA (aB (pv 0)) (aA (dA bO (fun Γ=>aO aR (by rfl) T.n_len aX (gA (aA (aB (pv 1)) aI) Γ))) aI)) Γ))) (fun _ _=>rfl)) ge_int (fun _ _=>rfl)))) bV)
  (aJ (bF (i:=5) nd rfl (Or.inl rfl) (gC (jY (aA bJ (aA bJ aI))) (bB (fun Γ=>aK G_law_take (hr.mono (by decide)) (by rfl) T.m_law_take T.F_law_take.kp (aL T) .nil bE (gA (aA (aB (pv 0)) (aA ge_int aI)) Γ))) (fun _ _=>rfl)))
  (aJ (fB (GW.gt (aW3 (cG pI kD (dA bO (fun Γ=>aO aR (by rfl) T.n_len aX (gA (aA (aB (pv 1)) aI) Γ))) ge_int (bC _)) (aA3 (cG (eE hr.units) (eF (neg:=false)) (bB (fun Γ=>aK G_law_take (hr.mono (by decide)) (by rfl) T.m_law_take T.F_law_take.kp (aL T) .nil bE (gA (aA (aB (pv 0)) (aA ge_int aI)) Γ))) ge_int (bC _))))) (aS (bF (i:=5) nd rfl (Or.inl rfl) (gC (gC (aB (pv 1)) (bB (fun Γ=>aK G_law_take (hr.mono (by decide)) (by rfl) T.m_law_take T.F_law_take.kp (aL T) .nil bE (gA (aA (aB (pv 0)) (aA (dA bO (fun Γ=>aO aR (by rfl) T.n_len aX (gA (aA (aB (pv 1)) aI) Γ))) aI)) Γ))) (fun _ _=>rfl)) ge_int (fun _ _=>rfl)))) bV)
  (aS (bM (aT aY aZ (aT aY aZ (bK (aB (pv 1)) cB (cC (aB (pv 2)))) (fN (aA (fN (aA (dU (aB (pv 5))) (aA (dU (aB (pv 4))) aI))) aI))) (bK (aB (pv 1)) (cC (aB (pv 2))) cB)))))))) bV)
  (aJ (bF (i:=2) nd rfl (Or.inl rfl) (bB (fun Γ=>aK G_law_take (hr.mono (by decide)) (by rfl) T.m_law_take T.F_law_take.kp (aL T) .nil bE (gA (aA (aB (pv 0)) (aA (dA bO (fun Γ=>aO aR (by rfl) T.n_len aX (gA (aA (aB (pv 1)) aI) Γ))) aI)) Γ))))
  (aJ (aX0 (own:=[5,4]) (rG (cW (bN (by decide)) (cW (bN (by decide)) lP))) (fun Γ=>oN (gE (gC (aB (pv 1)) (aB (pv 2)) (fun _ _=>rfl)) Γ) (iW (n:=2) K rfl rfl (cU (bG (i:=5) nd rfl (Or.inl rfl)) (cU (bG (i:=4) nd rfl (Or.inl rfl)) lK)))))
  (aJ (fB (cG (eE hr.units) (eF (neg:=false)) (aB (pv 3)) ge_int (bC _)) (aS (bM (fN aI))) bV)
  (aJ (fB (cG (eE hr.units) (eF (neg:=false)) (aB (pv 3)) ge_int (bC _)) (aJ (bF (i:=5) nd rfl (Or.inl rfl) (gC (jY (aA bJ (aA bJ (aA bJ (aA bJ (aA bJ (aA bJ aI))))))) (bB (fun Γ=>aK G_law_take (hr.mono (by decide)) (by rfl) T.m_law_take T.F_law_take.kp (aL T) .nil bE (gA (aA (aB (pv 0)) (aA ge_int aI)) Γ))) (fun _ _=>rfl)))
  (aS (bM (aT aY aZ (aT aY aZ (bK (aB (pv 1)) cB (cC (aB (pv 2)))) (fN (aA (fN (aA (dU (aB (pv 5))) (aA (dU (aB (pv 4))) aI))) aI))) (bK (aB (pv 1)) (cC (aT aY aZ (aB (pv 2)) ge_int)) cB))))) bV)
  (aS (bM (aT aY aZ (aT aY aZ (bK (aB (pv 1)) cB (cC (aB (pv 2)))) (fN (aA (fN (aA (dU (aB (pv 5))) (aA (dU (bB (fun Γ=>aK G_law_bad_columns (hr.mono (by decide)) (by rfl) T.m_law_bad_columns T.F_law_bad_columns.kp (oH T) .nil bE (gA (aA (aB (pv 0)) (aA (aB (pv 4)) aI)) Γ)))) aI))) aI))) (bK (aB (pv 1)) (cC (aT aY aZ (aB (pv 2)) ge_int)) cB)))))))))))
theorem dA0(T:Txt K mg a)(G_law_box:FnOk P w K mg base CX0 1 a.law_box a.fd_law_box ["_law_script","_law_k"] (dsp 2 eV))(G_law_question:FnOk P w K mg base CX0 5 a.law_question a.fd_law_question ["_law_box_here","_law_kind"] (bU9 2 cQ))(G_law_right:FnOk P w K mg base CX0 6 a.law_right a.fd_law_right ["_law_question_here"] (dsp 1 cX))(G_law_take:FnOk P w K mg base CX0 1 a.law_take a.fd_law_take ["_law_box_here","_law_many"] (dsp 2 aH))(G_law_changed:FnOk P w K mg base CX0 3 a.law_changed a.fd_law_changed ["_law_box_here","_law_question_here"] (dsp 2 dH)):FnOk P w K mg base CX0 7 a.law a.fd_law ["_law_script"] (bU9 1 sH):=by
 refine aX4 T.F_law cD2 (by decide) uC aF6 (fun cdv A outer s H E hr=>GM.to ?_)
 have nd:=cD2.nd
 unfold uC
 exact(bL7 (cN5 (bF (i:=1) nd rfl (Or.inl rfl) (bB (fun Γ=>aK G_law_box (hr.mono (by decide)) (by rfl) T.m_law_box T.F_law_box.kp (yV T) .nil bE (gA (aA (aB (pv 0)) (aA ge_int aI)) Γ)))))
  (bL7 (cN7 cZ8 (fun Γ=>cS (i:=2) nd rfl (Or.inl rfl) (aK G_law_question (hr.mono (by decide)) (by rfl) T.m_law_question T.F_law_question.kp (sU T) .nil bE (gA (aA (aB (pv 1)) (aA ge_int aI)) Γ))))
  (cZ7 (aJ (fB (rE (tM (bB (fun Γ=>aK G_law_right (hr.mono (by decide)) (by rfl) T.m_law_right T.F_law_right.kp (lR T) .nil bE (gA (aA (aB (pv 2)) aI) Γ))))) (aS (bM aA1)) bV)
  (aJ (rJ (own:=[3]) (bN (by decide)) (fun Γ=>jO PassesOwn.never rfl (gI (cJ8 (fun Γ=>aR8 (by rfl) T.n_range (gA (aA ge_int (aA ge_int aI)) Γ)) len2) Γ) (bG (i:=3) nd rfl (Or.inl rfl))
  (gSs (aJ (bF (i:=1) nd rfl (Or.inl rfl) (bB (fun Γ=>aK G_law_box (hr.mono (by decide)) (by rfl) T.m_law_box T.F_law_box.kp (yV T) .nil bE (gA (aA (aB (pv 0)) (aA (aB (pv 3)) aI)) Γ))))
  (aJ (bF (i:=4) nd rfl (Or.inl rfl) (dU (aB (pv 2))))
  (aJ (rJ (own:=[5]) (bN (by decide)) (fun Γ=>jO PassesOwn.never rfl (gI (wC (fun Γ=>eW (by rfl) T.n_range (gA (aA (aT aY aZ ge_int (bB (fun Γ=>aK G_law_take (hr.mono (by decide)) (by rfl) T.m_law_take T.F_law_take.kp (aL T) .nil bE (gA (aA (aB (pv 1)) (aA ge_int aI)) Γ)))) aI) Γ)) len1) Γ) (bG (i:=5) nd rfl (Or.inl rfl))
  (gSs (aS (bF (i:=4) nd rfl (Or.inl rfl) (bB (fun Γ=>aK G_law_changed (hr.mono (by decide)) (by rfl) T.m_law_changed T.F_law_changed.kp (wQ T) .nil bE (gA (aA (aB (pv 1)) (aA (aB (pv 4)) aI)) Γ))))) Γ)))
  (aS (fB (GW.gt (aW4 (rE (tM (bB (fun Γ=>aK G_law_right (hr.mono (by decide)) (by rfl) T.m_law_right T.F_law_right.kp (lR T) .nil bE (gA (aA (aB (pv 4)) aI) Γ))))) (yG (rE (tM (bB (fun Γ=>aK G_law_right (hr.mono (by decide)) (by rfl) T.m_law_right T.F_law_right.kp (lR T) .nil bE (gA (aA (aB (pv 2)) aI) Γ)))))))) (aS (bM aA1)) bV))))) Γ)))
  (aS (bM aA1)))))))
end
open PySem L2 Dv
local macro_rules | `(tactic| walk_at "dx")=>`(tactic| simp only[↓dH4,↓aY8,↓aY9,↓aZ0,↓aZ1,↓aZ2,↓aZ3,↓aZ4,↓aZ5,↓aZ6,↓aZ7,↓aZ8,↓aZ9,↓bA0,↓bA1,↓bA2,↓bA3,↓cK9,↓bA4,↓wI,↓aB7,↓aB8,↓wJ,↓bA5,↓bA6,↓aB9,↓aC0,↓aC1,↓bA7,↓bA8,↓cL0,↓bA9,↓bB0,↓cL1,↓bB1,↓bB2,↓bB3,↓bB4,↓bB5,↓aC2,↓aC3,↓bB6,↓bB7,↓bB8,↓bB9,↓bC0,↓aC4,↓bC1,↓aC5,↓bC2,↓bC3,↓bC4,↓bC5,↓bC6,↓bL1,↓bC7,↓bC8,↓bC9,↓aC6,↓aC7,↓bD0,↓bD1,↓bD2,↓bD3,↓bD4,↓bD5,↓bD6,↓bD7,↓bD8,↓bD9,↓cL3,↓aC8,↓wK,↓aC9,↓bE0,↓aD0,↓bF4,↓bF5,↓bF6,↓bF7,↓bF8,↓bF9,↓bG0,↓bG1,↓bG2,↓aF3,↓cL4,↓bG3,↓aD9,↓aE0,↓wT,↓bL0,↓lS,↓bL6,↓bL4,↓wW,↓rT,↓bJ7,↓bJ8,↓bJ9,↓bK0,↓bK1,↓bK2,↓bK3,↓bK4,↓aF0,↓bG4,↓aE1,↓aE2,↓aE3,↓bG5,↓bG6,↓bG7,↓bG8,↓bG9,↓cL7,↓cL8,↓cL9,↓cM0,↓bH0,↓bH2,↓bH3,↓aE4,↓aE5,↓bH4,↓aE6,↓bH5,↓bH6,↓aE7,↓wL,↓bH7,↓aE8,↓cM1,↓bH1,↓bH8,↓bH9,↓bI0,↓bI1,↓cM2,↓bI3,↓dH6,↓bI4,↓bI5,↓bI2,↓bW,bJ0,bJ1,bJ2,bV4,cM3,Int.reducePow,Int.reduceNeg,Int.reduceLT,Int.reduceLE,Nat.reducePow,Nat.reduceLT,Int.reduceToNat,Nat.reduceLeDiff,↓bI6,↓bI7,↓bI8,↓bI9,bJ5,bJ3,cM4,bJ4,↓bE2,↓bE3,↓bE4,↓bE5,↓bE6,↓bE7,↓bE8,↓bE9,↓bF0,↓aD1,↓aD2,↓aD3,↓aD4,↓bF1,↓bF2,↓bF3,aD5,aD6,aD7,aD8,List.set_cons_zero,List.set_cons_succ,eR,bO3,List.length_cons,List.length_nil,Nat.reduceAdd,Nat.zero_add,true_and,and_true,and_self,Bool.not_false,Bool.not_true,Bool.false_eq_true,Bool.true_and,Bool.and_true,Bool.or_false,↓reduceIte,decide_eq_true_eq])
theorem sl2:(2<=sizeLine):=by decide
theorem bY{a b m:Int}(h:0 < m)(h2:m < 18446744073709551616){K:Res->List Sl->Prop}(k:∀ d a' b',0<=d->d < m->K (.val (.int d)) [⟨.par,.lst [.int a',.int b']⟩,⟨.val,.int m⟩]):CK aH [⟨.par,.lst [.int a,.int b]⟩,⟨.val,.int m⟩] K:=by
 unfold aH
 rw[fO]
 show RS gH [_,_,none,none] _
 unfold gH
 walk_at "dx"
 rw[bV4 h h2]
 split
 ·exact⟨h,True.intro,k _ _ _ (Int.emod_nonneg _ (by omega)) (Int.emod_lt_of_pos _ h)⟩
 ·exact⟨h,k _ _ _ (Int.emod_nonneg _ (by omega)) (Int.emod_lt_of_pos _ h)⟩
theorem bL8{ns:List Int}{i:Int}(h0:0<=i)(h1:i < (ns.length:Int)):∃ c,atI (ns.map D.int) i=some (.int c):=by
 obtain⟨c,hc⟩:=oS (ys:=ns) h0 h1
 exact⟨c,by rw[oB,hc];rfl⟩
theorem cD7{ns:List Int}{n:Int}(h0:0<=n)(h1:n < 1000){K:Res->List Sl->Prop}(k:∀ a b,K (.own (.lst [.int a,.int b])) [⟨.val,.lst (ns.map D.int)⟩,⟨.val,.int n⟩]):CK eV [⟨.val,.lst (ns.map D.int)⟩,⟨.val,.int n⟩] K:=by
 unfold eV
 rw[fO]
 show RS iL [_,_,none,none] _
 unfold iL
 walk_at "dx"
 split
 ·rename_i hc
  obtain⟨c,hc⟩:=bL8 (ns:=ns) h0 (by simpa using hc)
  rw[hc]
  walk_at "dx"
  exact⟨sl2,k _ _⟩
 ·split
  ·rename_i hc
   refine⟨hc,?_⟩
   obtain⟨c,hc⟩:=bL8 (ns:=ns) (i:=n % ((ns.map D.int).length:Int)) (Int.emod_nonneg _ (by omega)) (by have:=Int.emod_lt_of_pos n hc;simpa using this)
   rw[hc]
   walk_at "dx"
   exact⟨sl2,k _ _⟩
  ·exact⟨sl2,k _ _⟩
theorem nT{lo:Int}{n i:Nat}{d:D}(h:(aA9 lo n)[i]? = some d):i < n/\d=.int (lo+i):=by
 unfold aA9 at h
 rw[List.getElem?_map]at h
 cases e:(List.range n)[i]? with
 | none=>rw[e]at h;cases h
 | some k=>
   rw[e]at h
   obtain⟨hi,hk⟩:=List.getElem?_eq_some_iff.mp e
   rw[List.length_range]at hi
   rw[List.getElem_range]at hk
   subst hk
   exact⟨hi,(Option.some.inj h).symm⟩
theorem lU(lo:Int)(n:Nat):(aA9 lo n).length=n:=by simp[aA9]
theorem jT{α:Type}{l:List α}{i:Int}{c:α}(h:atI l i=some c):c∈l:=by
 unfold atI at h
 obtain⟨j,_,h2⟩:=bind_some h
 exact List.mem_of_getElem? h2
open PySem L2 Dv
def Tx(z:Str):Prop:=z.length<=100/\∀ c∈z.cps.toList,c < 128
def cQ3(i j:Str):Bool:=!(Builtin.Str.occurrences j i 0 j.length 1).isEmpty
theorem cD8{i j:Str}{K:Res->Prop}:OK1 (inD false (.str i) (.str j)) K=K (.val (.bl (cQ3 i j))):=rfl
theorem cD9{z:Str}{lo hi:Option Int}{K:Res->Prop}:SK (.str z) lo hi K=(z.length<=sizeLine/\K (.val (.str (PySem.Txt.slice z lo hi)))):=by
 show OK1 (if _ then _ else none) K=_
 rw[bQ];rfl
theorem bL9{z:Str}{i:Int}{K:Res->Prop}:OK1 (aB4 (.str z) (.int i)) K=((z.length<=1000/\0<=i/\i<=1000)/\K (.val (.str (PySem.Txt.mul z i)))):=by
 unfold aB4
 dsimp only
 rw[bQ];rfl
theorem dA1{i:Nat}{σ τ:Sg}:nB [i] σ τ=τ.set i (σ[i]?.getD none):=rfl
theorem aL5:(Str.ofString "abcdefghijklmnopqrstuvwxyz").cps.toList.length=26:=by decide
theorem iS(z:Str):z.length=z.cps.toList.length:=by show z.cps.size=_;simp
theorem bM0(x y:Str):(x++y).cps.toList=x.cps.toList++y.cps.toList:=by show(x.cps++y.cps).toList=_;simp
theorem lV(x y:Str):(x++y).length=x.length+y.length:=by rw[iS,iS,iS,bM0,List.length_append]
def As(z:Str):Prop:=∀ c∈z.cps.toList,c < 128
theorem bM1{x y:Str}(hx:As x)(hy:As y):As (x++y):=by
 intro c hc
 rw[bM0]at hc
 rcases List.mem_append.mp hc with h | h
 ·exact hx c h
 ·exact hy c h
theorem qO{z:Str}(h:As z)(lo hi:Option Int):As (PySem.Txt.slice z lo hi):=by
 intro c hc
 unfold PySem.Txt.slice at hc
 split at hc
 ·exact h c hc
 ·simp only[List.mem_filterMap]at hc
  obtain⟨i,_,hi⟩:=hc
  exact h c (Array.mem_toList_iff.mpr (Array.mem_of_getElem? hi))
theorem slice_le(z:Str)(lo hi:Option Int):(PySem.Txt.slice z lo hi).length<=z.length:=PySem.Txt.slice_le z lo hi
theorem aF9{z:Str}(h:As z):iZ (.str z)=true:=by
 unfold iZ
 rw[Bool.and_eq_true]
 refine⟨?_,rfl⟩
 show PyData.strOk z=true
 unfold PyData.strOk
 rw[← Array.all_toList,List.all_eq_true]
 intro c hc
 have:=h c hc
 simp;omega
theorem bW9(d:D)(l:List D):iZ d=true->iZ (.lst l)=true->(pO d).depth<=59->iZ (.lst (d::l))=true:=by
 intro h1 h2 h3
 obtain⟨a1,b1⟩:=fE h1
 obtain⟨a2,b2⟩:=fE h2
 unfold iZ
 rw[Bool.and_eq_true,decide_eq_true_eq]
 have e1:(pO (.lst (d::l))).canLay0=((pO d).canLay0&&(pO (.lst l)).canLay0):=by
  simp only[pO,toPys,PyData.canLay0,PyData.canLayAll0]
 refine⟨by rw[e1,a1,a2];rfl,?_⟩
 simp only[pO,toPys,PyData.depth,PyData.depthAll]at b2 ⊢
 omega
theorem wZ:∀ {zs:List Str},(∀ z∈zs,As z)->iZ (.lst (zs.map D.str))=true
 | [],_=>rfl
 | z::r,h=>bW9 _ _ (aF9 (h z List.mem_cons_self)) (wZ fun y hy=>h y (List.mem_cons_of_mem _ hy)) (by show PyData.depth (.str z)<=59;simp[PyData.depth])
theorem dA2{z:Str}{zs:List Str}(hz:As z)(h:∀ z∈zs,As z){K:Res->Prop}(k:∀ b,K (.val (.bl b))):OK1 (inD true (.str z) (.lst (zs.map D.str))) K:=by
 show OK1 (if _ then _ else none) K
 rw[bQ]
 exact⟨⟨aF9 hz,wZ h⟩,k _⟩
open PySem L2 Dv
local macro_rules | `(tactic| walk_at "dx")=>`(tactic| simp only[↓dH4,↓aY8,↓aY9,↓aZ0,↓aZ1,↓aZ2,↓aZ3,↓aZ4,↓aZ5,↓aZ6,↓aZ7,↓aZ8,↓aZ9,↓bA0,↓bA1,↓bA2,↓bA3,↓cK9,↓bA4,↓wI,↓aB7,↓aB8,↓wJ,↓bA5,↓bA6,↓aB9,↓aC0,↓aC1,↓bA7,↓bA8,↓cL0,↓bA9,↓bB0,↓cL1,↓bB1,↓bB2,↓bB3,↓bB4,↓bB5,↓aC2,↓aC3,↓bB6,↓bB7,↓bB8,↓bB9,↓bC0,↓aC4,↓bC1,↓aC5,↓bC2,↓bC3,↓bC4,↓bC5,↓bC6,↓bL1,↓bC7,↓bC8,↓bC9,↓aC6,↓aC7,↓bD0,↓bD1,↓bD2,↓bD3,↓bD4,↓bD5,↓bD6,↓bD7,↓bD8,↓bD9,↓cL3,↓aC8,↓wK,↓aC9,↓bE0,↓aD0,↓bF4,↓bF5,↓bF6,↓bF7,↓bF8,↓bF9,↓bG0,↓bG1,↓bG2,↓aF3,↓cL4,↓bG3,↓aD9,↓aE0,↓wT,↓bL0,↓lS,↓bL6,↓bL4,↓wW,↓rT,↓bJ7,↓bJ8,↓bJ9,↓bK0,↓bK1,↓bK2,↓bK3,↓bK4,↓aF0,↓bG4,↓aE1,↓aE2,↓aE3,↓bG5,↓bG6,↓bG7,↓bG8,↓bG9,↓cL7,↓cL8,↓cL9,↓cM0,↓bH0,↓bH2,↓bH3,↓aE4,↓aE5,↓bH4,↓aE6,↓bH5,↓bH6,↓aE7,↓wL,↓bH7,↓aE8,↓cM1,↓bH1,↓bH8,↓bH9,↓bI0,↓bI1,↓cM2,↓bI3,↓dH6,↓bI4,↓cD9,↓bL9,↓cD8,dA1,List.getElem?_cons_succ,List.getElem?_cons_zero,Option.getD_some,↓bI5,↓bI2,↓bW,bJ0,bJ1,bJ2,bV4,cM3,Int.reducePow,Int.reduceNeg,Int.reduceLT,Int.reduceLE,Nat.reducePow,Nat.reduceLT,Int.reduceToNat,Nat.reduceLeDiff,↓bI6,↓bI7,↓bI8,↓bI9,bJ5,bJ3,cM4,bJ4,↓bE2,↓bE3,↓bE4,↓bE5,↓bE6,↓bE7,↓bE8,↓bE9,↓bF0,↓aD1,↓aD2,↓aD3,↓aD4,↓bF1,↓bF2,↓bF3,aD5,aD6,aD7,aD8,List.set_cons_zero,List.set_cons_succ,eR,bO3,List.length_cons,List.length_nil,Nat.reduceAdd,Nat.zero_add,true_and,and_true,and_self,Bool.not_false,Bool.not_true,Bool.false_eq_true,Bool.true_and,Bool.and_true,Bool.or_false,↓reduceIte,decide_eq_true_eq])
theorem bM2:∀ (zs:List Str),(∀ z∈zs,z.length<=1)->(zs.map (·.length)).sum<=zs.length
 | [],_=>by simp
 | z::r,h=>by
   have h1:=h z List.mem_cons_self
   have h2:=bM2 r fun y hy=>h y (List.mem_cons_of_mem _ hy)
   simp only[List.map_cons,List.sum_cons,List.length_cons]
   omega
theorem bM3{e:Int}(e0:0<=e)(e1:e < 26):∃ c,atI (Str.ofString "abcdefghijklmnopqrstuvwxyz").cps.toList e=some c/\c < 128:=by
 obtain⟨c,hc⟩:=oS (ys:=(Str.ofString "abcdefghijklmnopqrstuvwxyz").cps.toList) e0 (by rw[aL5];exact e1)
 exact⟨c,hc,aW0 c (jT hc)⟩
theorem aL6{c:Nat}(h:c < 128):As ⟨#[c]⟩:=by
 intro x hx
 have:x=c:=by simpa using hx
 subst this
 exact h
theorem dI2{k:Int}(h0:0<=k)(h1:k < 24):∃ (z:Str) (p q r:Nat),PySem.Txt.slice (PySem.Txt.slice (Str.ofString "abcdefghijklmnopqrstuvwxyz") (some k) none) none (some 3)=z/\z.length=3/\iA z=[.str ⟨#[p]⟩,.str ⟨#[q]⟩,.str ⟨#[r]⟩]/\p < 128/\q < 128/\r < 128:=by
 have l26:(Str.ofString "abcdefghijklmnopqrstuvwxyz").length=26:=by decide
 have e1:=aN7 (x:=Str.ofString "abcdefghijklmnopqrstuvwxyz") h0 (by rw[l26];omega)
 have e2:=qO (qO (z:=Str.ofString "abcdefghijklmnopqrstuvwxyz") aW0 (some k) none) none (some 3)
 have hl:(PySem.Txt.slice (Str.ofString "abcdefghijklmnopqrstuvwxyz") (some k) none).length=26-k.toNat:=by
  rw[iS,e1,List.length_drop,aL5]
 have e3:=bS2 (x:=PySem.Txt.slice (Str.ofString "abcdefghijklmnopqrstuvwxyz") (some k) none) (j:=3) (by decide) (by rw[hl];omega)
 have e4:=iS (PySem.Txt.slice (PySem.Txt.slice (Str.ofString "abcdefghijklmnopqrstuvwxyz") (some k) none) none (some 3))
 rw[e3,List.length_take,← iS,hl]at e4
 revert e2 e4
 generalize PySem.Txt.slice (PySem.Txt.slice (Str.ofString "abcdefghijklmnopqrstuvwxyz") (some k) none) none (some 3)=z
 intro e2 e4
 have e5:z.length=3:=by rw[e4];show min 3 _=3;omega
 have e6:=iS z
 rw[e5]at e6
 unfold As at e2
 match hz:z.cps.toList,e6 with
 | [p,q,r],_=>
   rw[hz]at e2
   exact⟨z,p,q,r,rfl,e5,by unfold iA;rw[hz];rfl,e2 p (by simp),e2 q (by simp),e2 r (by simp)⟩
theorem tx1{c:Nat}(h:c < 128):Tx ⟨#[c]⟩:=⟨by show 1<=100;decide,aL6 h⟩
theorem aL7{x y:Str}{m n:Nat}(h1:x.length<=m/\As x)(h2:y.length<=n/\As y):(x++y).length<=m+n/\As (x++y):=⟨by rw[lV];omega,bM1 h1.2 h2.2⟩
theorem len1(c:Nat):Str.length ⟨#[c]⟩=1:=rfl
theorem bX0{e:Int}(h0:0<=e)(h1:e < 11):∃ z:Str,atI ([D.str "table",D.str "tree",D.str "none",D.str "answer",D.str "levels",D.str "looks"]++[D.str "at",D.str "count",D.str "ears",D.str "cover",D.str "place"]) e=some (.str z)/\Tx z:=by
 have:e=0\/e=1\/e=2\/e=3\/e=4\/e=5\/e=6\/e=7\/e=8\/e=9\/e=10:=by omega
 rcases this with rfl | rfl | rfl | rfl | rfl | rfl | rfl | rfl | rfl | rfl | rfl<;>exact⟨_,rfl,by unfold Tx;decide⟩
theorem aG0(ys:List Str)(j:Nat)(z:Str):(ys.map D.str).set j (.str z)=(ys.set j z).map D.str:=by rw[List.map_set]
theorem dA3{n:Nat}{k:Int}(h0:0<=k)(h1:k < n){K:Nat->Prop}(q:∀ j,j < n->K j):OK1 (ixN n k) K:=by
 obtain⟨m,rfl⟩:∃ m:Nat,k=m:=⟨k.toNat,by omega⟩
 have e:ixN n (m:Int)=some m:=by
  unfold ixN
  rw[if_pos (by omega),if_pos (by omega)];simp
 rw[e]
 exact q m (by omega)
theorem dA4{m:Int}(h:m=0\/m=1):(PySem.Txt.mul "z" m).length<=1/\As (PySem.Txt.mul "z" m):=by
 rcases h with rfl | rfl
 ·exact⟨by decide,by unfold As;decide⟩
 ·exact⟨by decide,by unfold As;decide⟩
theorem zm2(p:Prop)[Decidable p]:(if p then(1:Int)else 0)=0\/(if p then(1:Int)else 0)=1:=by
 split
 ·exact .inr rfl
 ·exact .inl rfl
theorem bX1{a b:Int}{K:Res->List Sl->Prop}(k:∀ (zs:List Str) a' b',zs.length=6->(∀ z∈zs,Tx z)->K (.own (.lst (zs.map D.str))) [⟨.par,.lst [.int a',.int b']⟩,⟨.val,.int 6⟩]) :
  CK fR [⟨.par,.lst [.int a,.int b]⟩,⟨.val,.int 6⟩] K:=by
 unfold fR
 rw[fO]
 show RS fG [_,_,none,none,none,none,none,none,none,none,none,none,none,none,none] _
 unfold fG
 walk_at "dx"
 refine bY (by decide) (by decide) fun n a1 b1 n0 n5=>?_
 walk_at "dx"
 refine⟨by omega,by rw[lU];exact Nat.le_trans (by omega:n.toNat<=5) (by decide),?_⟩
 refine nN _ _ (fun i acc τ=>i<=5/\∃ (zs:List Str) (a' b':Int),acc=zs.map D.str/\zs.length=i/\(∀ z∈zs,z.length<=1/\As z)/\τ=[some ⟨.par,.lst [.int a',.int b']⟩,some ⟨.val,.int 6⟩,some ⟨.val,.str "abcdefghijklmnopqrstuvwxyz"⟩,none,none,none,none,none,none,none,none,none,none,none,none]) ⟨by omega,[],a1,b1,rfl,rfl,by simp,rfl⟩ ?_ ?_
 ·rintro i d acc τ hd ⟨_,zs,a',b',rfl,hl,hz,rfl⟩
  obtain⟨hi,rfl⟩:=nT hd
  walk_at "dx"
  refine bY (by decide) (by decide) fun e a2 b2 e0 e1=>?_
  walk_at "dx"
  refine⟨by decide,?_⟩
  obtain⟨c,hc,c1⟩:=bM3 e0 e1
  rw[hc]
  walk_at "dx"
  refine⟨_,rfl,by omega,zs++[⟨#[c]⟩],a2,b2,by rw[List.map_append];rfl,by rw[List.length_append,hl];rfl,?_,rfl⟩
  intro z hz'
  rcases List.mem_append.mp hz' with h | h
  ·exact hz z h
  ·rw[List.mem_singleton]at h
   subst h
   exact⟨Nat.le_refl 1,aL6 c1⟩
 ·rintro acc τ ⟨h5,zs,a',b',rfl,hl,hz,rfl⟩
  have hs:=bM2 zs fun z h=>(hz z h).1
  rw[cM6]
  refine⟨by simp only[show(Str.ofString "").length=0 by decide];omega,?_⟩
  have hx:=aA0 (m:=128) (sep:=Str.ofString "") (by decide) zs fun z h=>(hz z h).2
  have hxl:(PySem.Txt.join (Str.ofString "") zs).length<=5:=by
   refine Nat.le_trans (cH4 _ _) ?_
   simp only[show(Str.ofString "").length=0 by decide];omega
  revert hx hxl
  generalize PySem.Txt.join (Str.ofString "") zs=x
  intro hx hxl
  have hxs:x.length<=sizeLine:=Nat.le_trans hxl (by decide)
  walk_at "dx"
  rw[lS hxs]
  walk_at "dx"
  refine bY (by omega) (by omega) fun k1 a2 b2 k10 k11=>?_
  walk_at "dx"
  refine bY (by omega) (by omega) fun k2 a3 b3 k20 k21=>?_
  walk_at "dx"
  refine bY (by omega) (by omega) fun k3 a4 b4 k30 k31=>?_
  walk_at "dx"
  split
  ·refine bY (by omega) (by omega) fun k4 a5 b5 k40 k41=>?_
   walk_at "dx"
   obtain⟨z,p,q,r,e,hz3,es,hp,hq,hr⟩:=dI2 k40 k41
   rw[e,es]
   refine⟨by decide,Nat.le_trans (slice_le _ _ _) (by decide),hz3,?_⟩
   walk_at "dx"
   simp only[lV,len1]
   refine⟨by decide,by decide,by decide,by decide,by decide,by decide,by decide,by decide,by decide,?_⟩
   have tp:=tx1 hp
   have tq:=tx1 hq
   have tr:=tx1 hr
   have l1:∀ {c:Nat},c < 128->Str.length ⟨#[c]⟩<=1/\As ⟨#[c]⟩:=fun h=>⟨Nat.le_refl 1,aL6 h⟩
   have t2:∀ {x:Str} {n:Nat},n<=100->x.length<=n/\As x->Tx x:=fun hn h=>⟨Nat.le_trans h.1 hn,h.2⟩
   refine k [⟨#[p]⟩,⟨#[p]⟩++⟨#[q]⟩,⟨#[q]⟩,⟨#[q]⟩++⟨#[r]⟩,⟨#[r]⟩,⟨#[p]⟩++⟨#[r]⟩] _ _ rfl ?_
   intro z hz
   simp only[List.mem_cons,List.not_mem_nil,or_false]at hz
   rcases hz with rfl | rfl | rfl | rfl | rfl | rfl
   ·exact tp
   ·exact t2 (by decide) (aL7 (l1 hp) (l1 hq))
   ·exact tq
   ·exact t2 (by decide) (aL7 (l1 hq) (l1 hr))
   ·exact tr
   ·exact t2 (by decide) (aL7 (l1 hp) (l1 hr))
  ·refine⟨Nat.zero_le _,?_⟩
   refine wU (fun i τ=>i<=6/\∃ (ys:List Str) (o1 o2:Option Sl),((o1=none/\o2=none)\/∃ d e,o1=some ⟨.val,d⟩/\o2=some ⟨.val,e⟩)/\ys.length=i/\(∀ y∈ys,Tx y)/\τ=[some ⟨.par,.lst [.int a4,.int b4]⟩,some ⟨.val,.int 6⟩,some ⟨.val,.str "abcdefghijklmnopqrstuvwxyz"⟩,some ⟨.val,.str x⟩,some ⟨.val,.int k1⟩,some ⟨.val,.int k2⟩,some ⟨.val,.int k3⟩,none,none,none,none,some ⟨.own,.lst (ys.map D.str)⟩,o1,o2,none]) ⟨by omega,[],none,none,.inl ⟨rfl,rfl⟩,rfl,by simp,rfl⟩ ?_ ?_
   ·rintro i d τ hd ⟨_,ys,o1,o2,ho,hy,hyt,rfl⟩
    obtain⟨hi,rfl⟩:=nT hd
    obtain⟨c,hc,c1⟩:=bM3 (e:=(k2+5*(0+(i:Int))) % 26) (Int.emod_nonneg _ (by decide)) (Int.emod_lt_of_pos _ (by decide))
    have l1:=slice_le x none (some k1)
    have l2:=slice_le x (some k1) none
    have g1:=qO (z:=x) hx none (some k1)
    have g2:=qO (z:=x) hx (some k1) none
    have sl:100<=sizeLine:=by decide
    have done:∀ (w:Str) (t:Str) ,(w.length<=20/\As w)->(t.length<=1/\As t)->Tx (w++t):=fun w t hw ht=>by
     have:=aL7 hw ht
     exact⟨by omega,this.2⟩
    rcases ho with⟨rfl,rfl⟩ | ⟨d,e,rfl,rfl⟩
    all_goals
     walk_at "dx"
     rw[hc]
     walk_at "dx"
     have z1:=dA4 (zm2 ((0+(i:Int)) % 2=1))
     have z0:=dA4 (m:=0) (.inl rfl)
     have zi:=zm2 ((0+(i:Int)) % 2=1)
     have w0:(PySem.Txt.slice x none (some k1)++⟨#[c]⟩++PySem.Txt.slice x (some k1) none).length<=20/\As (PySem.Txt.slice x none (some k1)++⟨#[c]⟩++PySem.Txt.slice x (some k1) none):=by
      refine⟨?_,bM1 (bM1 g1 (aL6 c1)) g2⟩
      rw[lV,lV,len1]
      omega
     simp only[lV,len1]at w0 ⊢
     revert zi z1
     generalize (if(0+(i:Int)) % 2=1 then(1:Int)else 0)=zz
     intro z1 zi
     refine⟨by omega,by decide,by omega,by omega,by omega,?_⟩
     have hyl:(List.map D.str ys).length < sizeLine:=by rw[List.length_map];omega
     split
     ·refine⟨⟨by decide,by omega,by omega⟩,by omega,hyl,_,.inl rfl,by omega,ys++[_],_,_,.inr ⟨_,_,rfl,rfl⟩,by rw[List.length_append,hy];rfl,?_,by rw[List.map_append];rfl⟩
      intro y h
      rcases List.mem_append.mp h with h | h
      ·exact hyt y h
      ·rw[List.mem_singleton]at h
       subst h
       exact done _ _ ⟨by simp only[lV,len1];exact w0.1,w0.2⟩ z1
     ·refine⟨by decide,by omega,hyl,_,.inl rfl,by omega,ys++[_],_,_,.inr ⟨_,_,rfl,rfl⟩,by rw[List.length_append,hy];rfl,?_,by rw[List.map_append];rfl⟩
      intro y h
      rcases List.mem_append.mp h with h | h
      ·exact hyt y h
      ·rw[List.mem_singleton]at h
       subst h
       exact done _ _ ⟨by simp only[lV,len1];exact w0.1,w0.2⟩ z0
   ·rintro τ ⟨_,ys,o1,o2,ho,hy,hyt,rfl⟩
    rw[lU]at hy
    have hya:∀ z∈ys,As z:=fun z h=>(hyt z h).2
    rcases ho with⟨rfl,rfl⟩ | ⟨d,e,rfl,rfl⟩
    all_goals
     walk_at "dx"
     refine⟨by decide,by decide,by decide,bY (by omega) (by omega) fun k4 a5 b5 k40 k41=>?_⟩
     obtain⟨w,hw,tw⟩:=bX0 k40 k41
     walk_at "dx"
     rw[hw]
     walk_at "dx"
     refine bY (by omega) (by omega) fun k5 a6 b6 k50 k51=>?_
     walk_at "dx"
     split
     ·refine dA2 tw.2 hya fun b=>?_
      walk_at "dx"
      split
      ·refine bY (by omega) (by omega) fun k6 a7 b7 k60 k61=>?_
       walk_at "dx"
       refine dA3 k60 (by rw[List.length_map,hy];omega) fun j hj=>?_
       rw[aG0]
       refine k _ _ _ (by rw[List.length_set,hy]) fun z hz=>?_
       rcases List.mem_or_eq_of_mem_set hz with h | h
       ·exact hyt z h
       ·exact h ▸ tw
      ·exact k _ _ _ hy hyt
     ·exact k _ _ _ hy hyt
open PySem L2 Dv
theorem aQ3{K:PySem.W.Frag}(vs:List V)(H:Hp)(Q:L2.VK)(E:XK)(h:oU K vs H Q E):dsp 2 fR vs H Q E:=by
 obtain⟨p,m,rfl,⟨i,j,hp⟩,rfl,_,k⟩:=h
 have r:=bX1 (a:=i) (b:=j) (K:=fun res as'=>∃ zs a' b',zs.length=6/\(∀ z∈zs,Tx z)/\res=.own (.lst (zs.map D.str))/\as'=[⟨.par,.lst [.int a',.int b']⟩,⟨.val,.int 6⟩]) fun zs a' b' h1 h2=>⟨zs,a',b',h1,h2,rfl,rfl⟩
 obtain⟨⟨res,as'⟩,e,zs,a',b',h1,h2,e1,e2⟩:=oY.mp r
 cases e1;cases e2
 refine⟨_,_,_,cN9 hp,rfl,e,fun v H' po nw=>?_⟩
 obtain⟨r,rfl,hr,xs,hx,hrp⟩:=nw
 rw[hrp.strs_inv]at hx
 obtain⟨q1,q2⟩:=bW8 po
 exact k r zs H' hr hx (by rw[h1];rfl) h2 q1 q2
open PySem L2 Dv Sx
theorem dA5{l:List D}{K:List D->Prop}:OK1 (tO (.tup l)) K=K l:=rfl
theorem dA6{l:List D}{K:List D->Prop}:OK1 (tO (.lst l)) K=K l:=rfl
theorem dA7{z:Str}{K:List D->Prop}:OK1 (tO (.str z)) K=K (iA z):=rfl
theorem dA8{l:List D}{K:List D->Prop}:OK1 (dI1 (.tup l)) K=K l:=rfl
theorem dA9{i:Nat}{σ:Sg}:bZ [i] σ=σ.set i none:=rfl
def ov(b:Bool)(d:D):Option Sl:=if b=true then some ⟨.val,d⟩else none
theorem dB0{b:Bool}{d:D}{r:Sg}{s:Sl}{K:Sg->Prop}:Dv.PK 0 (ov b d::r) s K=K (some s::r):=by cases b<;>rfl
theorem cO2{l m:List D}{K:D×D->Prop}:OK1 (cK6 (.lst l) [.lst m]) K=(l.length+m.length<=sizeLine/\K (.lst (l++m),.non)):=by
 unfold cK6
 dsimp only[cP8]
 show OK1 (if _ then _ else none) K=_
 rw[bQ]
 rfl
theorem dB1{b:MS}{Q:Out->Prop}{σ:Sg}:sqM b Q (.nx σ)=b σ Q:=rfl
local macro_rules | `(tactic| walk_at "dx")=>`(tactic| simp only[↓dB1,↓cZ5,↓cO2,↓dB0,↓dH4,↓aY8,↓aY9,↓aZ0,↓aZ1,↓aZ2,↓aZ3,↓aZ4,↓aZ5,↓aZ6,↓aZ7,↓aZ8,↓aZ9,↓bA0,↓bA1,↓bA2,↓bA3,↓cK9,↓bA4,↓wI,↓aB7,↓aB8,↓wJ,↓bA5,↓bA6,↓aB9,↓aC0,↓aC1,↓bA7,↓bA8,↓cL0,↓bA9,↓bB0,↓cL1,↓bB1,↓bB2,↓bB3,↓bB4,↓bB5,↓aC2,↓aC3,↓bB6,↓bB7,↓bB8,↓bB9,↓bC0,↓aC4,↓bC1,↓aC5,↓bC2,↓bC3,↓bC4,↓bC5,↓bC6,↓bL1,↓bC7,↓bC8,↓bC9,↓aC6,↓aC7,↓bD0,↓bD1,↓bD2,↓bD3,↓bD4,↓bD5,↓bD6,↓bD7,↓bD8,↓bD9,↓cL3,↓aC8,↓wK,↓aC9,↓bE0,↓aD0,↓bF4,↓bF5,↓bF6,↓bF7,↓bF8,↓bF9,↓bG0,↓bG1,↓bG2,↓aF3,↓cL4,↓bG3,↓aD9,↓aE0,↓wT,↓bL0,↓lS,↓bL6,↓bL4,↓wW,↓rT,↓bJ7,↓bJ8,↓bJ9,↓bK0,↓bK1,↓bK2,↓bK3,↓bK4,↓aF0,↓bG4,↓aE1,↓aE2,↓aE3,↓bG5,↓bG6,↓bG7,↓bG8,↓bG9,↓cL7,↓cL8,↓cL9,↓cM0,↓bH0,↓bH2,↓bH3,↓aE4,↓aE5,↓bH4,↓aE6,↓bH5,↓bH6,↓aE7,↓wL,↓bH7,↓aE8,↓cM1,↓bH1,↓bH8,↓bH9,↓bI0,↓bI1,↓cM2,↓bI3,↓dH6,↓bI4,↓cD9,↓bL9,↓cD8,dA1,dA9,↓dA5,↓dA6,↓dA7,↓dA8,List.getElem?_cons_succ,List.getElem?_cons_zero,Option.getD_some,↓bI5,↓bI2,↓bW,bJ0,bJ1,bJ2,bV4,cM3,Int.reducePow,Int.reduceNeg,Int.reduceLT,Int.reduceLE,Nat.reducePow,Nat.reduceLT,Int.reduceToNat,Nat.reduceLeDiff,↓bI6,↓bI7,↓bI8,↓bI9,bJ5,bJ3,cM4,bJ4,↓bE2,↓bE3,↓bE4,↓bE5,↓bE6,↓bE7,↓bE8,↓bE9,↓bF0,↓aD1,↓aD2,↓aD3,↓aD4,↓bF1,↓bF2,↓bF3,aD5,aD6,aD7,aD8,List.set_cons_zero,List.set_cons_succ,eR,bO3,List.length_cons,List.length_nil,Nat.reduceAdd,Nat.zero_add,true_and,and_true,and_self,Bool.not_false,Bool.not_true,Bool.false_eq_true,Bool.true_and,Bool.and_true,Bool.or_false,↓reduceIte,decide_eq_true_eq])
theorem sI{α:Type}(f:α->D)(l:List α)(lo hi:Option Int):∃ l':List α,pN (l.map f) lo hi=l'.map f/\l'.length<=l.length/\∀ z∈l',z∈l:=by
 refine⟨(l.drop (HT.sIx (l.map f).length 0 lo)).take (HT.sIx (l.map f).length (l.map f).length hi-HT.sIx (l.map f).length 0 lo),?_,?_,fun z hz=>List.mem_of_mem_drop (List.mem_of_mem_take hz)⟩
 ·unfold pN
  rw[List.map_take,List.map_drop]
 ·rw[List.length_take,List.length_drop];omega
theorem bM4{α:Type}(f:α->D){l:List α}{i:Int}(h0:0<=i)(h1:i < (l.length:Int)):∃ c,atI (l.map f) i=some (f c)/\c∈l:=by
 obtain⟨c,hc⟩:=oS (ys:=l) h0 h1
 exact⟨c,by rw[oB,hc];rfl,jT hc⟩
theorem bM5(l:List D)(a b:Option Int):(pN l a b).length<=l.length:=by
 unfold pN
 rw[List.length_take,List.length_drop];omega
theorem bM6{r:DT}{σ:Sg}{Q Q':Bool->Sg->Prop}(h:RT r σ Q)(w:∀ b τ,Q b τ->Q' b τ):RT r σ Q':=cP h fun x=>w x.1 x.2
theorem bM7{r:DE}{σ:Sg}{Q Q':Res->Sg->Prop}(h:RE r σ Q)(w:∀ b τ,Q b τ->Q' b τ):RE r σ Q':=cP h fun x=>w x.1 x.2
theorem sJ{α:Type}{g:D->Sg->Option Sg}{ow:List Nat}{t:DT}{e:DE}{K:List D×Sg->Prop}(f:α->D)(u:α->D)(xs:List α){τ0:Sg}(τ:Sg)(e0:τ0=τ)
  (hs:∀ x∈xs,OK1 (g (u x) τ) fun τ1=>RT t τ1 fun b τ2=>b=true/\RE e τ2 fun r τ3=>r=.val (f x)/\bZ ow τ3=τ) (k:K (xs.map f,τ)):OK1 (aF2 ow g t e (xs.map u) τ0) K:=by
 subst e0
 refine nN _ _ (fun i acc τ'=>acc=(xs.take i).map f/\τ'=τ0) ⟨rfl,rfl⟩ ?_ ?_
 ·rintro i d acc τ' hd ⟨rfl,rfl⟩
  rw[List.getElem?_map]at hd
  obtain⟨x,hx,rfl⟩:=Option.map_eq_some_iff.mp hd
  refine cP (hs x (List.mem_of_getElem? hx)) fun τ1 h1=>bM6 h1 fun b τ2 h2=>?_
  obtain⟨rfl,h2⟩:=h2
  rw[if_pos rfl]
  refine bM7 h2 fun r τ3 h3=>?_
  exact⟨_,h3.1,by rw[List.take_add_one,hx,List.map_append];rfl,h3.2⟩
 ·rintro acc τ' ⟨rfl,rfl⟩
  rw[List.length_map,List.take_length]
  exact k
theorem pG{α:Type}{g:D->Sg->Option Sg}{ow:List Nat}{t:DT}{e:DE}{K:List D×Sg->Prop}(p:α->Bool)(f:α->D)(u:α->D)(xs:List α){τ0:Sg}(τ:Sg)(e0:τ0=τ)
  (hs:∀ x∈xs,OK1 (g (u x) τ) fun τ1=>RT t τ1 fun b τ2=>b=p x/\bZ ow τ2=τ/\RE e τ2 fun r τ3=>r=.val (f x)/\bZ ow τ3=τ) (k:K ((xs.filter p).map f,τ)):OK1 (aF2 ow g t e (xs.map u) τ0) K:=by
 subst e0
 refine nN _ _ (fun i acc τ'=>acc=((xs.take i).filter p).map f/\τ'=τ0) ⟨rfl,rfl⟩ ?_ ?_
 ·rintro i d acc τ' hd ⟨rfl,rfl⟩
  rw[List.getElem?_map]at hd
  obtain⟨x,hx,rfl⟩:=Option.map_eq_some_iff.mp hd
  refine cP (hs x (List.mem_of_getElem? hx)) fun τ1 h1=>bM6 h1 fun b τ2 h2=>?_
  obtain⟨rfl,h2,h3⟩:=h2
  have e0:(xs.take (i+1)).filter p=(xs.take i).filter p++(if p x=true then[x]else[]):=by
   rw[List.take_add_one,hx,List.filter_append]
   cases h:p x<;>simp[h]
  by_cases hp:p x=true
  ·rw[if_pos hp]
   refine bM7 h3 fun r τ3 h4=>?_
   exact⟨_,h4.1,by rw[e0,if_pos hp,List.map_append];rfl,h4.2⟩
  ·rw[if_neg hp]
   exact⟨by rw[e0,if_neg hp,List.append_nil],h2⟩
 ·rintro acc τ' ⟨rfl,rfl⟩
  rw[List.length_map,List.take_length]
  exact k
abbrev dB2:Str:="abcdefghijklmnopqrstuvwxyz"
def xA(z:Str):List Str:=z.cps.toList.map fun c=>⟨#[c]⟩
theorem zE(z:Str):iA z=(xA z).map D.str:=by unfold iA xA;rw[List.map_map];rfl
theorem sK(z:Str):(xA z).length=z.length:=by unfold xA;rw[List.length_map,iS]
def nmB(z:Str):Bool:=decide (1<=z.length/\z.length<=6)&&(xA z).all (cQ3 · dB2)
theorem aG1{α:Type}{f:α->D}{l:List α}{i:Nat}{d:D}(h:(l.map f)[i]? = some d):∃ y,l[i]? = some y/\d=f y:=by
 rw[List.getElem?_map]at h
 obtain⟨y,e,rfl⟩:=Option.map_eq_some_iff.mp h
 exact⟨y,e,rfl⟩
theorem zF{α:Type}{l:List α}{i:Nat}{y:α}(h:l[i]? = some y):l.take i++[y]=l.take (i+1):=by
 rw[List.take_add_one,h];rfl
theorem dB3{α:Type}(f:α->D)(p:α->Bool)(l:List α){ow:List Nat}{g:DG}{e:DE}{K:List D×Sg->Prop}{τ:Sg}
  (hs:∀ y∈l,OK1 (g (f y) τ) fun τ1=>RE e τ1 fun r τ3=>r=.val (.bl (p y))/\bZ ow τ3=τ) (k:K ((l.map p).map D.bl,τ)):OK1 (aF2 ow g wD e (l.map f) τ) K:=by
 refine nN _ _ (fun i acc τ'=>acc=((l.take i).map p).map D.bl/\τ'=τ) ⟨rfl,rfl⟩ ?_ ?_
 ·rintro i d acc τ' hd ⟨rfl,rfl⟩
  obtain⟨y,hy,rfl⟩:=aG1 hd
  refine cP (hs y (List.mem_of_getElem? hy)) fun τ1 h=>?_
  rw[wI,if_pos rfl]
  refine cP h fun r hr=>⟨_,hr.1,?_,hr.2⟩
  rw[← zF hy,List.map_append,List.map_append];rfl
 ·rintro acc τ' ⟨rfl,rfl⟩
  rw[List.length_map,List.take_length]
  exact k
theorem bM8{α:Type}(p:α->Bool)(l:List α):(l.map p).all id=l.all p:=by rw[List.all_map];rfl
theorem aL8{z:Str}(hz:z.length<=1000){K:Res->List Sl->Prop}(k:K (.val (.bl (nmB z))) [⟨.val,.str z⟩]):CK eB [⟨.val,.str z⟩] K:=by
 unfold eB
 rw[fO]
 show RS iM [_,none] _
 unfold iM
 have sl:10000<=sizeLine:=by decide
 have hs:z.length<=sizeLine:=by omega
 walk_at "dx"
 rw[lS hs]
 walk_at "dx"
 have e0:nmB z=(decide (1<=z.length/\z.length<=6)&&(xA z).all (cQ3 · dB2)):=rfl
 split
 ·split
  ·rw[zE]
   refine⟨by rw[List.length_map,sK];exact hs,dB3 D.str (cQ3 · dB2) (xA z) (fun y hy=>?_) ?_⟩
   ·walk_at "dx"
   ·walk_at "dx"
    rw[bM8]
    rw[e0,decide_eq_true (by omega),Bool.true_and]at k
    exact k
  ·rw[e0,decide_eq_false (by omega),Bool.false_and]at k
   exact k
 ·rw[e0,decide_eq_false (by omega),Bool.false_and]at k
  exact k
def dB4(cs:List Str):Bool:=decide cs.Nodup&&cs.all nmB
theorem bM9{cs:List Str}(hc:cs.length<=1000)(ht:∀ z∈cs,Tx z){K:Res->List Sl->Prop}(k:K (.val (.bl (dB4 cs))) [⟨.val,.tup (cs.map D.str)⟩]):CK bX [⟨.val,.tup (cs.map D.str)⟩] K:=by
 unfold bX
 rw[fO]
 show RS cD [_,none] _
 unfold cD
 have sl:10000<=sizeLine:=by decide
 have lc:(cs.map D.str).length=cs.length:=List.length_map _
 walk_at "dx"
 refine⟨by omega,?_⟩
 have e0:dB4 cs=(decide cs.Nodup&&cs.all nmB):=rfl
 rw[lc]
 split
 ·rename_i h
  have hn:cs.Nodup:=nP.mp (by omega)
  rw[e0,decide_eq_true hn,Bool.true_and]at k
  refine⟨by omega,dB3 D.str nmB cs (fun y hy=>?_) ?_⟩
  ·walk_at "dx"
   refine aL8 (z:=y) (by have:=(ht y hy).1;omega) ?_
   walk_at "dx"
  ·walk_at "dx"
   rw[bM8]
   exact k
 ·rename_i h
  have hn:¬ cs.Nodup:=fun hn=>h (by rw[nP.mpr hn])
  rw[e0,decide_eq_false hn,Bool.false_and]at k
  exact k
open PySem L2 Dv Sx
theorem cE0{neg:Bool}{z:Str}{zs:List Str}(hz:As z)(h:∀ z∈zs,As z){K:Res->Prop}(k:K (.val (.bl (if neg=true then !zs.contains z else zs.contains z)))):OK1 (inD neg (.str z) (.lst (zs.map D.str))) K:=by
 show OK1 (if _ then _ else none) K
 rw[bQ]
 refine⟨⟨aF9 hz,wZ h⟩,?_⟩
 have e:((zs.map D.str).any fun y=>aK6 y (.str z))=zs.contains z:=by
  rw[List.any_map,List.contains_eq_any_beq]
  congr 1
  funext y
  show(y==z)=(z==y)
  rw[Bool.eq_iff_iff,beq_iff_eq,beq_iff_eq,eq_comm]
 rw[e]
 exact k
def sL(z:Str)(cs:List Str):Bool:=nmB z&&(decide (1<=cs.length/\cs.length<=4)&&dB4 cs)
theorem bX2{z:Str}{cs:List Str}(hz:z.length<=100)(hc:cs.length<=1000)(ht:∀ z∈cs,Tx z){K:Res->List Sl->Prop}(k:K (.val (.bl (sL z cs))) [⟨.val,.str z⟩,⟨.val,.tup (cs.map D.str)⟩]) :
  CK cK [⟨.val,.str z⟩,⟨.val,.tup (cs.map D.str)⟩] K:=by
 unfold cK
 rw[fO]
 show RS cR [_,_] _
 unfold cR
 have e0:sL z cs=(nmB z&&(decide (1<=cs.length/\cs.length<=4)&&dB4 cs)):=rfl
 have lc:(cs.map D.str).length=cs.length:=List.length_map _
 walk_at "dx"
 refine aL8 (by omega) ?_
 walk_at "dx"
 split
 ·rename_i h1
  split
  ·split
   ·refine bM9 hc ht ?_
    walk_at "dx"
    rw[e0,h1,decide_eq_true (by omega),Bool.true_and,Bool.true_and]at k
    exact k
   ·rw[e0,h1,decide_eq_false (by omega),Bool.false_and,Bool.and_false]at k
    exact k
  ·rw[e0,h1,decide_eq_false (by omega),Bool.false_and,Bool.and_false]at k
   exact k
 ·rename_i h1
  rw[e0,Bool.eq_false_iff.mpr h1,Bool.false_and]at k
  exact k
def jB(qs:List (Str×List Str)):List Str:=qs.foldl (fun acc q=>acc++q.2.filter fun c=>!acc.contains c) []
theorem aQ4(qs:List (Str×List Str))(q:Str×List Str):jB (qs++[q])=jB qs++q.2.filter fun c=>!(jB qs).contains c:=by
 unfold jB
 rw[List.foldl_append];rfl
theorem aG2{qs:List (Str×List Str)}(hq:qs.length<=1000){K:Res->List Sl->Prop}(k:K (.own (.lst ((qs.map Prod.fst).map D.str))) [⟨.val,qD qs⟩]):CK fH [⟨.val,qD qs⟩] K:=by
 unfold fH
 rw[fO]
 show RS gJ [_,none,none] _
 unfold gJ
 walk_at "dx"
 refine⟨Nat.le_trans (by rw[List.length_map];exact hq) (by decide),sJ (fun q=>.str q.1) qP qs [_,none,none] rfl (fun q _=>?_) ?_⟩
 ·walk_at "dx"
  exact rfl
 ·rw[List.map_map]at k
  exact k
def Qn(qs:List (Str×List Str)):Prop:=qs.length<=100/\∀ q∈qs,Tx q.1/\q.2.length<=100/\∀ z∈q.2,Tx z
theorem bN0{qs:List (Str×List Str)}{z:Str}(h:z∈jB qs):∃ q∈qs,z∈q.2:=by
 have key:∀ (l:List (Str×List Str)) (acc:List Str),z∈l.foldl (fun acc q=>acc++q.2.filter fun c=>!acc.contains c) acc->z∈acc\/∃ q∈l,z∈q.2:=by
  intro l
  induction l with
  | nil=>intro acc h;exact .inl h
  | cons q r ih=>
    intro acc h
    rcases ih _ h with h | ⟨q',h1,h2⟩
    ·rcases List.mem_append.mp h with h | h
     ·exact .inl h
     ·exact .inr ⟨q,List.mem_cons_self,(List.mem_filter.mp h).1⟩
    ·exact .inr ⟨q',List.mem_cons_of_mem _ h1,h2⟩
 rcases key qs [] h with h | h
 ·cases h
 ·exact h
theorem bN1{qs:List (Str×List Str)}{n:Nat}(h:∀ q∈qs,q.2.length<=n):(jB qs).length<=qs.length*n:=by
 have key:∀ (l:List (Str×List Str)) (acc:List Str),(∀ q∈l,q.2.length<=n)->(l.foldl (fun acc q=>acc++q.2.filter fun c=>!acc.contains c) acc).length<=acc.length+l.length*n:=by
  intro l
  induction l with
  | nil=>intro acc _;simp
  | cons q r ih=>
    intro acc h
    have h1:=ih (acc++q.2.filter fun c=>!acc.contains c) fun x hx=>h x (List.mem_cons_of_mem _ hx)
    have h2:=h q List.mem_cons_self
    have h3:=List.length_filter_le (fun c=>!acc.contains c) q.2
    rw[List.length_append]at h1
    rw[List.foldl_cons,List.length_cons,Nat.succ_mul]
    omega
 have:=key qs [] h
 rw[List.length_nil,Nat.zero_add]at this
 exact this
theorem kU{α:Type}{l:List α}{i:Nat}{y:α}(h:l[i]? = some y):l.take (i+1)=l.take i++[y]:=(zF h).symm
theorem sM{qs:List (Str×List Str)}(hq:Qn qs){Q:Out->Prop}(k:∀ x2 x3 d2 d3,Q (.nx [some ⟨.val,qD qs⟩,some ⟨.own,.lst ((jB qs).map D.str)⟩,ov x2 d2,ov x3 d3,none])) :
  OK1 (cN0 (pM 2 (dW (dgN 2) (dW (dgN 3) pL))) (aA6 (aA5 "list" 1 cK6 (aC (kX [4] (dIt (aM 3)) (dgN 4) (eQ (bA (inD true) (aM 4) (aM 1))) (dFz (aM 4))) bD))) (qs.map qP) [some ⟨.val,qD qs⟩,some ⟨.own,.lst []⟩,none,none,none]) Q:=by
 have sl:20000<=sizeLine:=by decide
 have hA:∀ i,∀ z∈jB (qs.take i),As z:=fun i z hz=>by
  obtain⟨q,h1,h2⟩:=bN0 hz
  exact((hq.2 q (List.mem_of_mem_take h1)).2.2 z h2).2
 have hL:∀ i,(jB (qs.take i)).length<=10000:=fun i=>by
  have h1:=bN1 (qs:=qs.take i) (n:=100) fun q h=>(hq.2 q (List.mem_of_mem_take h)).2.1
  have h2:=hq.1
  have h3:(qs.take i).length<=100:=by rw[List.length_take];omega
  have h4:=Nat.mul_le_mul_right 100 h3
  omega
 refine wU (fun i τ=>∃ x2 x3 d2 d3,τ=[_,some ⟨.own,.lst ((jB (qs.take i)).map D.str)⟩,ov x2 d2,ov x3 d3,none]) ⟨false,false,.non,.non,rfl⟩ ?_ ?_
 ·rintro i d τ hd ⟨x2,x3,d2,d3,rfl⟩
  obtain⟨q,hqi,rfl⟩:=aG1 hd
  have hqm:=hq.2 q (List.mem_of_getElem? hqi)
  walk_at "dx"
  refine⟨Nat.le_trans (by rw[List.length_map];exact hqm.2.1) (by decide),pG (fun c=>!(jB (qs.take i)).contains c) D.str D.str q.2 [_,_,_,_,none] rfl (fun c hc=>?_) ?_⟩
  ·walk_at "dx"
   refine cE0 (hqm.2.2 c hc).2 (hA i) ?_
   walk_at "dx"
  ·walk_at "dx"
   refine⟨by
    rw[List.length_map,List.length_map]
    have h1:=hL i
    have h2:=List.length_filter_le (fun c=>!(jB (qs.take i)).contains c) q.2
    have h3:=hqm.2.1
    omega,_,.inl rfl,true,true,.str q.1,.tup (q.2.map D.str),?_⟩
   rw[kU hqi,aQ4,List.map_append]
   rfl
 ·rintro τ ⟨x2,x3,d2,d3,rfl⟩
  rw[List.length_map,List.take_length]
  exact k x2 x3 d2 d3
theorem aQ5{qs:List (Str×List Str)}(hq:Qn qs){K:Res->List Sl->Prop}(k:K (.val (.tup ((jB qs).map D.str))) [⟨.val,qD qs⟩]):CK dX [⟨.val,qD qs⟩] K:=by
 unfold dX
 rw[fO]
 show RS eN [_,none,none,none,none] _
 unfold eN
 walk_at "dx"
 refine⟨Nat.zero_le _,sM hq fun x2 x3 d2 d3=>?_⟩
 walk_at "dx"
 exact k
theorem aG3{qs:List (Str×List Str)}(hq:Qn qs){K:Res->List Sl->Prop}(k:K (.own (.lst ((jB qs).map D.str))) [⟨.val,qD qs⟩]):CK dG [⟨.val,qD qs⟩] K:=by
 unfold dG
 rw[fO]
 show RS dZ [_,none,none,none,none] _
 unfold dZ
 walk_at "dx"
 refine⟨Nat.zero_le _,sM hq fun x2 x3 d2 d3=>?_⟩
 walk_at "dx"
 exact k
def kJ(ah:List (Str×List Str))(q:Str×List Str):Bool:=sL q.1 q.2&&(!(ah.map Prod.fst).contains q.1&&decide ((jB (ah++[q])).length<=6))
theorem bN2{ah:List (Str×List Str)}{q:Str×List Str}(hq:Qn (ah++[q])){K:Res->List Sl->Prop}(k:K (.val (.bl (kJ ah q))) [⟨.val,qD ah⟩,⟨.val,.str q.1⟩,⟨.val,.tup (q.2.map D.str)⟩]) :
  CK cE [⟨.val,qD ah⟩,⟨.val,.str q.1⟩,⟨.val,.tup (q.2.map D.str)⟩] K:=by
 have sl:1000<=sizeLine:=by decide
 have e0:kJ ah q=(sL q.1 q.2&&(!(ah.map Prod.fst).contains q.1&&decide ((jB (ah++[q])).length<=6))):=rfl
 have hl:=hq.1
 rw[List.length_append]at hl
 have q1:=hq.2 q (List.mem_append_right _ List.mem_cons_self)
 unfold cE
 rw[fO]
 show RS cL [_,_,_] _
 unfold cL
 walk_at "dx"
 refine bX2 q1.1.1 (by omega) q1.2.2 ?_
 walk_at "dx"
 have em:ah.map qP++[.tup [.str q.1,.tup (q.2.map D.str)]]=(ah++[q]).map qP:=by rw[List.map_append];rfl
 split
 ·rename_i h1
  have h1':sL q.1 q.2=false:=by simpa using h1
  rw[e0,h1',Bool.false_and]at k
  exact k
 ·rename_i h1
  have h1':sL q.1 q.2=true:=by simpa using h1
  refine aG2 (by omega) ?_
  walk_at "dx"
  refine cE0 q1.1.2 (fun z hz=>?_) ?_
  ·obtain⟨p,hp,rfl⟩:=List.mem_map.mp hz
   exact(hq.2 p (List.mem_append_left _ hp)).1.2
  walk_at "dx"
  split
  ·rename_i h2
   rw[e0,h1',h2,Bool.true_and]at k
   exact k
  ·rename_i h2
   have h2':=Bool.eq_false_iff.mpr h2
   rw[em]
   refine⟨sl2,by decide,by rw[List.length_map];omega,aQ5 hq ?_⟩
   walk_at "dx"
   rw[e0,h1',h2',Bool.true_and,Bool.not_false,Bool.true_and]at k
   rw[show decide (((((jB (ah++[q])).map D.str).length:Nat):Int)<=6)=decide ((jB (ah++[q])).length<=6)from decide_eq_decide.mpr (by rw[List.length_map];omega)]
   exact k
open PySem L2 Dv Sx
theorem aL9{g:DG}{b:DS}{items:List D}{σ:Sg}(P:Nat->Sg->Prop){K:Out->Prop}(h0:P 0 σ)(hs:∀ i d σ,items[i]? = some d->P i σ->OK1 (g d σ) fun σ1=>RS b σ1 fun o=>(∃ σ2,(o=.nx σ2\/o=.ct σ2)/\P (i+1) σ2)\/(∃ x σ2,o=.rt x σ2/\K (.rt x σ2))\/(∃ c f σ2,o=.ex c f σ2/\K (.ex c f σ2)))(k:∀ σ',P items.length σ'->K (.nx σ')):OK1 (cN0 g b items σ) K:=by
 unfold cN0
 induction items generalizing P σ with
 | nil=>exact k σ h0
 | cons d r ih=>
   show OK1 ((g d σ).bind _) K
   rw[aQ]
   refine cP (hs 0 d σ rfl h0) fun σ1 h1=>?_
   show OK1 ((b σ1).bind _) K
   rw[aQ]
   refine cP h1 fun o h2=>?_
   rcases h2 with⟨σ2,h2 | h2,h3⟩ | ⟨x,σ2,h2,h3⟩ | ⟨c,f,σ2,h2,h3⟩
   ·subst h2
    exact ih (fun i=>P (i+1)) h3 (fun i d σ e=>hs (i+1) d σ (by simpa using e)) (fun σ' h=>k σ' (by simpa using h))
   ·subst h2
    exact ih (fun i=>P (i+1)) h3 (fun i d σ e=>hs (i+1) d σ (by simpa using e)) (fun σ' h=>k σ' (by simpa using h))
   ·subst h2;exact h3
   ·subst h2;exact h3
theorem cO3:isD false .non .non=some (.val (.bl true)):=by unfold isD;simp
theorem cO4(i:Int):isD false (.int i) .non=some (.val (.bl false)):=by unfold isD;simp
theorem cO5:isD false (.bl true) (.bl true)=some (.val (.bl true)):=by unfold isD;simp
def dN8(as:List Sl)(K:RX->List Sl->Prop):Out->Prop
 | .nx σ=>K (.ok (.val .non)) (mB as σ)
 | .rt r σ=>OK1 (aX3 σ r) fun r'=>K (.ok r') (mB as σ)
 | .ex c f σ=>K (.ex c f) (mB as σ)
 | _=>False
theorem cO6{len:Nat}{b:DS}{as:List Sl}{K:RX×List Sl->Prop}:OK1 (dD5 len b as) K=RS b (ini len as) (dN8 as fun x y=>K (x,y)):=by
 unfold RS dD5
 rw[aQ]
 congr 1;funext o
 cases o with
 | rt x s=>show OK1 ((aX3 s x).bind _) _=OK1 (aX3 s x) _;rw[aQ];rfl
 | _=>rfl
theorem cO7{iF iE iO iR n:Nat}{run:cQ2}{ra:DA}{c f:Str}{σ:Sg}{K:Out->Prop}{ds:List D}{σ1:Sg}(e:ra σ=some (ds.map Res.val,σ1))(hn:ds.length=n)(h:OK1 (run (asV ds)) fun y=>
  (y.1=.ok (.val (.bl true))/\fC σ1 iF=true/\K (.nx (σ1.set iF (some ⟨.val,.bl true⟩)))) \/
  (∃ m,y.1=.ex c (some (f,.int m))/\(σ1[iE]? = some none/\iE≠iO/\iE≠iR/\iO≠iR/\fC σ1 iO=true/\fC (σ1.set iO (some ⟨.val,.bl true⟩)) iR=true)/\K (.nx ((σ1.set iO (some ⟨.val,.bl true⟩)).set iR (some ⟨.val,.tup [.bl true,.int m]⟩))))):RS (bW2 iF iE iO iR n run ra c f) σ K:=by
 have hv:∀ ds:List D,aP7 (ds.map Res.val)=some ds:=fun ds=>by
  induction ds with
  | nil=>rfl
  | cons d r ih=>show(aP7 (r.map Res.val)).bind _=_;rw[ih];rfl
 unfold RS bW2
 rw[e]
 show OK1 ((aP7 (ds.map Res.val)).bind _) K
 rw[hv]
 show OK1 ((if ds.length=n then run (asV ds)else none).bind _) K
 rw[if_pos hn,aQ]
 refine cP h ?_
 rintro⟨y,as'⟩ (⟨h1,h2,h3⟩ | ⟨m,h1,h2,h3⟩)
 ·dsimp only at h1
  subst h1
  show OK1 (if fC σ1 iF=true then _ else none) K
  rw[if_pos h2]
  exact h3
 ·dsimp only at h1
  subst h1
  dsimp only
  rw[if_pos ⟨rfl,rfl,trivial,h2⟩]
  exact h3
theorem bX3{v:Int}{K:Res->List Sl->Prop}(k:K (.val (.bl true)) [⟨.val,.int v⟩]):CK eO [⟨.val,.int v⟩] K:=by
 unfold eO
 rw[fO]
 show RS fJ [_] _
 unfold fJ
 walk_at "dx"
 simp only[show lM "int" "int"=true from rfl,show lM "int" "bool"=false from rfl,Bool.not_false,↓reduceIte]
 exact k
theorem cO8(m:Int):eqD false (.tup [.bl true,.int m]) (.tup [.bl true,.int m])=some (.val (.bl true)):=by
 have e:aK6 (.tup [.bl true,.int m]) (.tup [.bl true,.int m])=true:=by
  show(true&&((m==m)&&true))=true
  simp
 unfold eqD
 rw[if_pos ⟨rfl,rfl⟩,e];rfl
theorem dB5{z:Str}:nmB z=true↔((xA z).filter (cQ3 · dB2)).length=z.length/\0 < z.length/\z.length < 7:=by
 unfold nmB
 rw[Bool.and_eq_true,decide_eq_true_eq,List.all_eq_true,← sK z,List.length_filter_eq_length_iff]
 constructor
 ·rintro⟨h1,h2⟩;exact⟨h2,by omega,by omega⟩
 ·rintro⟨h2,h1,h3⟩;exact⟨by omega,h2⟩
def bX4(qs:List (Str×List Str))(i:Nat):Bool:=!kJ (qs.take i) (qs.getD i ("",[]))
def Dq(qs:List (Str×List Str))(d:Option Int):Prop:=(∃ i,i < min 6 qs.length/\bX4 qs i=true/\(∀ j,j < i->bX4 qs j=false)/\d=some (i:Int)) \/
 ((∀ j,j < min 6 qs.length->bX4 qs j=false)/\d=if qs.length=0 then some (-1)else if 6 < qs.length then some 6 else none)
theorem cE1{qs:List (Str×List Str)}{d e:Option Int}(h:Dq qs d)(g:Dq qs e):d=e:=by
 rcases h with⟨i,h1,h2,h3,rfl⟩ | ⟨h1,rfl⟩
 ·rcases g with⟨j,g1,g2,g3,rfl⟩ | ⟨g1,_⟩
  ·rcases Nat.lt_trichotomy i j with l | rfl | l
   ·rw[g3 i l]at h2;cases h2
   ·rfl
   ·rw[h3 j l]at g2;cases g2
  ·rw[g1 i h1]at h2;cases h2
 ·rcases g with⟨j,g1,g2,g3,rfl⟩ | ⟨_,rfl⟩
  ·rw[h1 j g1]at g2;cases g2
  ·rfl
def rx:Option Int->RX
 | none=>.ok (.val (.bl true))
 | some n=>.ex "BadQuestion" (some ("at",.int n))
theorem uI{α:Type}{l:List α}{j:Nat}(h:j < l.length):atI l (j:Int)=l[j]?:=by
 unfold atI
 have e:ixN l.length (j:Int)=some j:=by
  unfold ixN
  rw[if_pos (by omega),if_pos (by omega)];simp
 rw[e];rfl
theorem bN3{qs:List (Str×List Str)}(h:Qn qs)(i:Nat):Qn (qs.take i):=⟨Nat.le_trans (by rw[List.length_take];omega) h.1,fun q hq=>h.2 q (List.mem_of_mem_take hq)⟩
theorem dK7{qs:List (Str×List Str)}{i:Nat}{q:Str×List Str}(h:qs[i]? = some q):qs.getD i ("",[])=q:=by rw[List.getD_eq_getElem?_getD,h];rfl
theorem zG{α:Type}(f:α->D)(l:List α)(i:Nat):pN (l.map f) none (some (i:Int))=(l.take i).map f:=by
 unfold pN
 rw[HT.sIx_none,HT.sIx_nat,List.drop_zero,Nat.sub_zero,← List.map_take,List.length_map,← List.take_eq_take_min]
theorem cO9{qs:List (Str×List Str)}(hq:Qn qs){K:RX×List Sl->Prop}(k:∀ d,Dq qs d->K (rx d,[⟨.val,qD qs⟩])):OK1 (nQ [⟨.val,qD qs⟩]) K:=by
 unfold nQ
 rw[cO6]
 show RS sG [_,none,none] _
 unfold sG
 have lc:(qs.map qP).length=qs.length:=List.length_map _
 walk_at "dx"
 split
 ·rename_i h
  exact⟨by decide,k (some (-1)) (.inr ⟨fun j hj=>absurd hj (by omega),by rw[if_pos (by omega)]⟩)⟩
 ·rename_i h
  refine aL9 (fun i τ=>i<=6/\(∀ j,j < i->bX4 qs j=false)/\∃ x1 x2 d1 d2,τ=[_,ov x1 d1,ov x2 d2]) ⟨by omega,fun j h=>absurd h (Nat.not_lt_zero _),false,false,.non,.non,rfl⟩ ?_ ?_
  ·rintro i d τ hd ⟨hi6,hb,x1,x2,d1,d2,rfl⟩
   obtain⟨y',hy',rfl⟩:=iB hd
   obtain⟨q,hqi,rfl⟩:=aG1 hy'
   have hil:i < qs.length:=(List.getElem?_eq_some_iff.mp hqi).1
   rw[Nat.zero_add]
   walk_at "dx"
   have lg:(i:Int).natAbs.log2 < 1000:=by
    show i.log2 < 1000
    have:=Nat.log2_le_self i
    omega
   have eb:bX4 qs i = !kJ (qs.take i) q:=by unfold bX4;rw[dK7 hqi]
   split
   ·rename_i h6
    have i6:i=6:=by omega
    exact⟨lg,.inr (.inr ⟨_,_,_,rfl,k (some (i:Int)) (.inr ⟨fun j hj=>hb j (by omega),by rw[if_neg (by omega),if_pos (by omega),i6];rfl⟩)⟩)⟩
   ·rename_i h6
    rw[zG]
    refine bN2 (q:=q) (ah:=qs.take i) (by rw[← kU hqi];exact bN3 hq (i+1)) ?_
    walk_at "dx"
    split
    ·rename_i h7
     exact⟨lg,.inr (.inr ⟨_,_,_,rfl,k (some (i:Int)) (.inl ⟨i,by omega,by rw[eb];exact h7,hb,rfl⟩)⟩)⟩
    ·rename_i h7
     refine .inl ⟨_,.inl rfl,by omega,fun j hj=>?_,true,true,_,_,rfl⟩
     rcases Nat.lt_or_eq_of_le (Nat.le_of_lt_succ hj)with l | rfl
     ·exact hb j l
     ·rw[eb];exact Bool.eq_false_iff.mpr h7
  ·rintro τ ⟨hi6,hb,x1,x2,d1,d2,rfl⟩
   rw[gM,lc]at hi6 hb
   walk_at "dx"
   exact k none (.inr ⟨fun j hj=>hb j (by omega),by rw[if_neg (by omega),if_neg (by omega)]⟩)
open PySem L2 Dv Sx
theorem bX5{z:Str}(hz:z.length<=100){K:Res->List Sl->Prop}(k:K (.val (.bl (nmB z))) [⟨.val,.str z⟩]):CK dF [⟨.val,.str z⟩] K:=by
 have sl:10000<=sizeLine:=by decide
 have hs:z.length<=sizeLine:=by omega
 unfold dF
 rw[fO]
 show RS dY [_,none,none] _
 unfold dY
 walk_at "dx"
 rw[zE]
 refine⟨by rw[List.length_map,sK];exact hs,pG (cQ3 · dB2) D.str D.str (xA z) [_,none,none] rfl (fun y hy=>?_) ?_⟩
 ·walk_at "dx"
 walk_at "dx"
 rw[lS hs]
 walk_at "dx"
 rw[List.length_map]
 have e0:=dB5 (z:=z)
 split
 ·rename_i h1
  rw[lS hs]
  walk_at "dx"
  split
  ·rename_i h2
   have e1:nmB z=decide ((z.length:Int) < 7):=by
    rw[Bool.eq_iff_iff,e0,decide_eq_true_eq]
    exact⟨fun h=>by omega,fun h=>⟨by omega,by omega,by omega⟩⟩
   rw[e1]at k
   exact k
  ·have e1:nmB z=false:=Bool.eq_false_iff.mpr fun h=>by have:=e0.mp h;omega
   rw[e1]at k
   exact k
 ·have e1:nmB z=false:=Bool.eq_false_iff.mpr fun h=>by have:=e0.mp h;omega
  rw[e1]at k
  exact k
theorem cP0{qs:List (Str×List Str)}{i:Nat}{q:Str×List Str}(hq:qs[i]? = some q):kJ (qs.take i) q=true ↔
  (((qs.take (i+1)).map Prod.fst).count q.1<=1/\(q.1::q.2).all nmB=true/\(0 < q.2.length/\q.2.length < 5)/\q.2.Nodup/\(jB (qs.take (i+1))).length<=6):=by
 have e1:((qs.take (i+1)).map Prod.fst).count q.1=((qs.take i).map Prod.fst).count q.1+1:=by
  rw[kU hq,List.map_append,List.count_append]
  simp
 have e2:((qs.take i).map Prod.fst).contains q.1=false↔((qs.take i).map Prod.fst).count q.1=0:=by
  rw[List.count_eq_zero,← Bool.not_eq_true,List.contains_iff_mem]
 unfold kJ sL dB4
 rw[e1,List.all_cons,kU hq]
 simp only[Bool.and_eq_true,decide_eq_true_eq,Bool.not_eq_true',e2]
 constructor
 ·rintro⟨⟨h1,h2,h3,h4⟩,h5,h6⟩
  exact⟨by omega,⟨h1,h4⟩,by omega,h3,h6⟩
 ·rintro⟨h1,⟨h2,h3⟩,h4,h5,h6⟩
  exact⟨⟨h2,by omega,h5,h3⟩,by omega,h6⟩
theorem cE2{qs:List (Str×List Str)}{i:Nat}{q:Str×List Str}(hq:qs[i]? = some q):bX4 qs i = !kJ (qs.take i) q:=by unfold bX4;rw[dK7 hq]
theorem cE3{qs:List (Str×List Str)}(hq:Qn qs){K:Res->List Sl->Prop}(k:∀ d,Dq qs d->K (.val (match d with | none=>.non | some n=>.int n)) [⟨.val,qD qs⟩]):CK gK [⟨.val,qD qs⟩] K:=by
 unfold gK
 rw[fO]
 show RS iN [_,none,none,none,none,none,none] _
 unfold iN
 have lc:(qs.map qP).length=qs.length:=List.length_map _
 have hm:(if((qs.map qP).length:Int) < 6 then((qs.map qP).length:Int)else 6)=((min 6 qs.length:Nat):Int):=by
  rw[lc];split<;>omega
 walk_at "dx"
 rw[hm,Int.toNat_natCast]
 refine⟨by omega,?_⟩
 refine aL9 (fun i τ=>(∀ j,j < i->bX4 qs j=false)/\∃ x1 x2 x3 x4 d1 d2 d3,τ=[_,ov x1 d1,ov x2 d2,ov x3 d3,fo x4,none,none]) ⟨fun j h=>absurd h (Nat.not_lt_zero _),false,false,false,none,.non,.non,.non,rfl⟩ ?_ ?_
 ·rintro i d τ hd ⟨hb,x1,x2,x3,x4,d1,d2,d3,rfl⟩
  obtain⟨hi,hd⟩:=nT hd
  rw[Int.zero_add]at hd
  subst hd
  have hil:i < qs.length:=by omega
  obtain⟨q,hqi⟩:∃ q,qs[i]? = some q:=⟨_,List.getElem?_eq_getElem hil⟩
  have hat:atI (qs.map qP) (i:Int)=some (qP q):=by
   rw[oB,uI hil,hqi];rfl
  have hqm:=hq.2 q (List.mem_of_getElem? hqi)
  have sl:10000<=sizeLine:=by decide
  have tl:(qs.take (i+1)).length<=100:=by rw[List.length_take];have:=hq.1;omega
  have e1:(i:Int)+1=((i+1:Nat):Int):=rfl
  have e2:((qs.take (i+1)).map fun p=>D.str p.1)=((qs.take (i+1)).map Prod.fst).map D.str:=by rw[List.map_map];rfl
  have ret:kJ (qs.take i) q≠true->K (.val (.int (i:Int))) [⟨.val,qD qs⟩]:=fun h=>k (some (i:Int)) (.inl ⟨i,hi,by rw[cE2 hqi,Bool.eq_false_iff.mpr h];rfl,hb,rfl⟩)
  have bi:=cP0 hqi
  have aeq:[D.str q.1]++q.2.map D.str=(q.1::q.2).map D.str:=rfl
  walk_at "dx"
  rw[hat]
  walk_at "dx"
  rw[e1,zG]
  refine⟨by rw[List.length_map];omega,sJ (fun p=>.str p.1) qP (qs.take (i+1)) [_,_,_,_,_,none,none] rfl (fun p _=>?_) ?_⟩
  ·walk_at "dx"
  rw[e2]
  walk_at "dx"
  split
  ·rename_i hc
   exact .inr (.inl ⟨_,_,rfl,ret fun h=>by have:=(bi.mp h).1;omega⟩)
  rename_i hc
  rw[aeq]
  refine⟨by decide,by rw[List.length_map];have:=hqm.2.1;show 1+q.2.length<=sizeLine;omega,by rw[List.length_map];have:=hqm.2.1;show q.2.length+1<=sizeLine;omega,sJ (fun z=>.bl (nmB z)) D.str (q.1::q.2) [_,_,_,_,_,_,none] rfl (fun z hz=>?_) ?_⟩
  ·walk_at "dx"
   refine bX5 ?_ ?_
   ·rcases List.mem_cons.mp hz with rfl | hz
    ·exact hqm.1.1
    ·exact(hqm.2.2 z hz).1
   ·walk_at "dx"
  rw[show((q.1::q.2).map fun z=>D.bl (nmB z))=((q.1::q.2).map nmB).map D.bl from by rw[List.map_map];rfl]
  have l3:(q.2.map D.str).length=q.2.length:=List.length_map _
  walk_at "dx"
  rw[bM8,l3]
  split
  ·rename_i hn
   exact .inr (.inl ⟨_,_,rfl,ret fun h=>by rw[(bi.mp h).2.1]at hn;cases hn⟩)
  rename_i hn
  have hn':(q.1::q.2).all nmB=true:=by
   cases h:(q.1::q.2).all nmB with
   | true=>rfl
   | false=>rw[h]at hn;exact absurd rfl hn
  split
  ·rename_i h0
   split
   ·rename_i h5
    have h5':¬ ((q.2.length:Int) < 5):=by simpa using h5
    exact .inr (.inl ⟨_,_,rfl,ret fun h=>by have:=(bi.mp h).2.2.1;omega⟩)
   ·rename_i h5
    have h5':(q.2.length:Int) < 5:=by simpa using h5
    have nl:=aL1 q.2 []
    refine⟨by omega,?_⟩
    split
    ·rename_i h6
     exact .inr (.inl ⟨_,_,rfl,ret fun h=>by have:=nP.mpr (bi.mp h).2.2.2.1;omega⟩)
    ·rename_i h6
     have nd:q.2.Nodup:=nP.mp (by omega)
     rw[e1,zG]
     refine aG3 (bN3 hq (i+1)) ?_
     walk_at "dx"
     rw[List.length_map]
     split
     ·exact .inr (.inl ⟨_,_,rfl,ret fun h=>by have:=(bi.mp h).2.2.2.2;omega⟩)
     ·refine .inl ⟨_,.inl rfl,fun j hj=>?_,true,true,true,some (true,_),_,_,_,rfl⟩
      rcases Nat.lt_or_eq_of_le (Nat.le_of_lt_succ hj)with l | rfl
      ·exact hb j l
      ·rw[cE2 hqi,bi.mpr ⟨by omega,hn',by omega,nd,by omega⟩];rfl
  ·exact .inr (.inl ⟨_,_,rfl,ret fun h=>by have:=(bi.mp h).2.2.1;omega⟩)
 ·rintro τ ⟨hb,x1,x2,x3,x4,d1,d2,d3,rfl⟩
  rw[lU]at hb
  walk_at "dx"
  split
  ·rename_i h0
   exact k (some (-1)) (.inr ⟨hb,by rw[if_pos (by omega)]⟩)
  ·split
   ·exact k (some 6) (.inr ⟨hb,by rw[if_neg (by omega),if_pos (by omega)]⟩)
   ·exact k none (.inr ⟨hb,by rw[if_neg (by omega),if_neg (by omega)]⟩)
theorem xB{qs:List (Str×List Str)}(hq:Qn qs){K:Res->List Sl->Prop}(k:K (.val (.bl true)) [⟨.val,qD qs⟩]):CK cX [⟨.val,qD qs⟩] K:=by
 unfold cX
 rw[fO]
 show RS fK [_,none,none,none,none,none] _
 unfold fK
 walk_at "dx"
 refine cO7 (ds:=[qD qs]) (σ1:=[some ⟨.val,qD qs⟩,some ⟨.val,.non⟩,some ⟨.val,.non⟩,none,none,none]) rfl rfl ?_
 refine cO9 hq fun d hd=>?_
 cases d with
 | none=>
   refine .inl ⟨rfl,rfl,?_⟩
   walk_at "dx"
   refine cE3 hq fun d' hd'=>?_
   have:=cE1 hd hd'
   subst this
   walk_at "dx"
   show OK1 (isD false .non .non) _
   rw[cO3]
   walk_at "dx"
   rw[cO5]
   exact k
 | some n=>
   refine .inr ⟨n,rfl,⟨rfl,by decide,by decide,by decide,rfl,rfl⟩,?_⟩
   walk_at "dx"
   refine cE3 hq fun d' hd'=>?_
   have:=cE1 hd hd'
   subst this
   walk_at "dx"
   show OK1 (isD false (.int n) .non) _
   rw[cO4]
   walk_at "dx"
   refine⟨sl2,?_⟩
   show OK1 (eqD false (.tup [.bl true,.int n]) (.tup [.bl true,.int n])) _
   rw[cO8]
   walk_at "dx"
   refine bX3 ?_
   walk_at "dx"
   exact k
open PySem L2 Dv Sx
theorem cP1{α:Type}(f:α->D)(l:List α)(y:α)(a b c d:Option Int):∃ l':List α,pN (l.map f) a b++[f y]++pN (l.map f) c d=l'.map f/\l'.length<=2*l.length+1/\∀ z∈l',z∈l\/z=y:=by
 obtain⟨p,e1,h1,m1⟩:=sI f l a b
 obtain⟨q,e2,h2,m2⟩:=sI f l c d
 refine⟨p++[y]++q,by rw[e1,e2,List.map_append,List.map_append];rfl,?_,fun z hz=>?_⟩
 ·simp only[List.length_append,List.length_cons,List.length_nil];omega
 ·rcases List.mem_append.mp hz with h | h
  ·rcases List.mem_append.mp h with h | h
   ·exact .inl (m1 z h)
   ·exact .inr (List.mem_singleton.mp h)
  ·exact .inl (m2 z h)
theorem aM0{α:Type}(f:α->D)(l:List α)(hl:l.length<=3000){y:α}{P:α->Prop}(hP:∀ z∈l,P z)(hy:P y){p q r s:Option Int}{J:List D->Prop}(k:∀ l':List α,l'.length<=2*l.length+1->(∀ z∈l',P z)->J (l'.map f)) :
  1<=sizeLine/\(pN (l.map f) p q).length+1<=sizeLine/\(pN (l.map f) p q++[f y]).length+(pN (l.map f) r s).length<=sizeLine/\J (pN (l.map f) p q++[f y]++pN (l.map f) r s):=by
 have sl:10000<=sizeLine:=by decide
 have h1:=bM5 (l.map f) p q
 have h2:=bM5 (l.map f) r s
 rw[List.length_map]at h1 h2
 obtain⟨l',e,hl,hm⟩:=cP1 f l y p q r s
 refine⟨by omega,by omega,by simp only[List.length_append,List.length_cons,List.length_nil];omega,?_⟩
 rw[e]
 refine k _ (by omega) fun z hz=>?_
 rcases hm z hz with h | rfl
 ·exact hP z h
 ·exact hy
theorem zH(z:Str)(h:decide (z.length<=100)=true)(h2:(z.cps.toList.all fun c=>decide (c < 128))=true):Tx z:=⟨of_decide_eq_true h,fun c hc=>of_decide_eq_true (List.all_eq_true.mp h2 c hc)⟩
theorem dI3{e:Int}(h0:0<=e)(h1:e < 7):∃ z:Str,atI [D.str "",D.str "abcdefg",D.str "A",D.str "b2",D.str "a b",D.str "x_",D.str "ab\n"] e=some (.str z)/\Tx z:=by
 have:e=0\/e=1\/e=2\/e=3\/e=4\/e=5\/e=6:=by omega
 rcases this with rfl | rfl | rfl | rfl | rfl | rfl | rfl<;>exact⟨_,rfl,zH _ (by decide) (by decide)⟩
theorem bX6{α:Type}(f:α->D)(l:List α)(i:Nat):pN (l.map f) (some (i:Int)) none=(l.drop i).map f:=by
 unfold pN
 rw[HT.sIx_none,HT.sIx_nat,← List.map_drop,List.length_map]
 have e:(l.drop (min i l.length))=l.drop i:=by
  by_cases h:i<=l.length
  ·rw[Nat.min_eq_left h]
  ·rw[Nat.min_eq_right (by omega),List.drop_length,List.drop_of_length_le (by omega)]
 rw[e,List.take_of_length_le (by rw[List.length_map,List.length_drop];omega)]
theorem cE4{cs:List Str}(ht:∀ z∈cs,Tx z)(lo hi:Option Int){J:List D->Prop}(k:∀ l:List Str,l.length<=cs.length->(∀ z∈l,Tx z)->J (l.map D.str)):J (pN (cs.map D.str) lo hi):=by
 obtain⟨l,e,h1,h2⟩:=sI D.str cs lo hi
 rw[e]
 exact k l h1 fun z hz=>ht z (h2 z hz)
noncomputable def bN4:DS:=(cH (jN (eQ (bA (eqD false) (aM 2) (dC (.int 2)))) (cH (fL 4 (bA ixD (yH (aC (dC (.str "")) (aC (dC (.str "abcdefg")) (aC (dC (.str "A")) (aC (dC (.str "b2")) (aC (dC (.str "a b")) (aC (dC (.str "x_")) (aC (dC (.str "ab\n")) bD)))))))) (bL 2 aH (aC (aM 0) (aC (dC (.int 7)) bD)))))
 (fZ (bA dQ (bA dQ (dSl (aM 1) jM (dP (aM 3))) (lZ (aC (dFz (aM 4)) bD))) (dSl (aM 1) (dP (bA dQ (aM 3) (dC (.int 1)))) jM)))) dN)
 (cH (jN (eQ (bA (eqD false) (aM 2) (dC (.int 3)))) (fZ (dSl (lZ (aC (dC (.str "va")) (aC (dC (.str "vb")) (aC (dC (.str "vc")) (aC (dC (.str "vd")) (aC (dC (.str "ve")) bD)))))) jM (dP (bA dQ (dC (.int 4)) (bL 2 aH (aC (aM 0) (aC (dC (.int 2)) bD))))))) dN)
 (fZ (dSl (bA dQ (aM 1) (dSl (lZ (aC (dC (.str "wa")) (aC (dC (.str "wb")) (aC (dC (.str "wc")) bD)))) jM (dP (bA dQ (dC (.int 1)) (bL 2 aH (aC (aM 0) (aC (dC (.int 3)) bD))))))) jM (dP (bA dQ (dC (.int 4)) (dCB cC8 (aC (bA (eqD false) (aM 2) (dC (.int 4))) bD))))))))
theorem dK8:∀ z∈[Str.ofString "va",Str.ofString "vb",Str.ofString "vc",Str.ofString "vd",Str.ofString "ve"],Tx z:=fun z hz=>by
 simp only[List.mem_cons,List.not_mem_nil,or_false]at hz
 rcases hz with rfl | rfl | rfl | rfl | rfl<;>exact zH _ (by decide) (by decide)
theorem dN9:∀ z∈[Str.ofString "wa",Str.ofString "wb",Str.ofString "wc"],Tx z:=fun z hz=>by
 simp only[List.mem_cons,List.not_mem_nil,or_false]at hz
 rcases hz with rfl | rfl | rfl<;>exact zH _ (by decide) (by decide)
theorem cE5{a b a0 b0 f g:Int}{cs:List Str}{n:Nat}(hn:n<=1000)(hc:cs.length<=n)(ht:∀ z∈cs,Tx z){K:Res->List Sl->Prop}(k:∀ (cs':List Str) a' b',cs'.length<=2*n+5->(∀ z∈cs',Tx z)->K (.val (.tup (cs'.map D.str))) [⟨.par,.lst [.int a',.int b']⟩,⟨.val,.tup (cs.map D.str)⟩]) :
  RS bN4 [some ⟨.par,.lst [.int a,.int b]⟩,some ⟨.val,.tup (cs.map D.str)⟩,some ⟨.val,.int f⟩,some ⟨.val,.int g⟩,none] (bE1 [⟨.par,.lst [.int a0,.int b0]⟩,⟨.val,.tup (cs.map D.str)⟩] K):=by
 have sl:10000<=sizeLine:=by decide
 have lc:(cs.map D.str).length=cs.length:=List.length_map _
 unfold bN4
 walk_at "dx"
 split
 ·refine⟨by decide,bY (by decide) (by decide) fun e a1 b1 e0 e1=>?_⟩
  obtain⟨w,hw,tw⟩:=dI3 e0 e1
  walk_at "dx"
  rw[hw]
  walk_at "dx"
  exact aM0 D.str cs (by omega) ht tw (J:=fun l=>K (.val (.tup l)) _) fun l' h1 h2=>k _ _ _ (by omega) h2
 split
 ·refine⟨by decide,bY (by decide) (by decide) fun e a1 b1 e0 e1=>?_⟩
  walk_at "dx"
  exact cE4 (J:=fun l=>K (.val (.tup l)) _) dK8 none (some (4+e)) fun l h1 h2=>k _ _ _ (by have h3:l.length<=5:=h1;omega) h2
 ·refine⟨by decide,bY (by decide) (by decide) fun e a1 b1 e0 e1=>?_⟩
  walk_at "dx"
  obtain⟨w,ew,w1,w2⟩:=sI D.str [Str.ofString "wa",Str.ofString "wb",Str.ofString "wc"] none (some (1+e))
  rw[show pN [D.str (Str.ofString "wa"),D.str (Str.ofString "wb"),D.str (Str.ofString "wc")] none (some (1+e))=w.map D.str from ew,← List.map_append]
  have w3:w.length<=3:=w1
  refine⟨by rw[List.length_map,List.length_map];omega,?_⟩
  refine cE4 (cs:=cs++w) (J:=fun l=>K (.val (.tup l)) _) (fun z hz=>?_) none _ fun l h1 h2=>k _ _ _ (by rw[List.length_append]at h1;omega) h2
  rcases List.mem_append.mp hz with h | h
  ·exact ht z h
  ·exact dN9 z (w2 z h)
theorem sZ{a b:Int}{cs:List Str}{n:Nat}(hn:n<=1000)(hc:cs.length<=n)(ht:∀ z∈cs,Tx z){K:Res->List Sl->Prop}(k:∀ (cs':List Str) a' b',cs'.length<=2*n+5->(∀ z∈cs',Tx z)->K (.val (.tup (cs'.map D.str))) [⟨.par,.lst [.int a',.int b']⟩,⟨.val,.tup (cs.map D.str)⟩]) :
  CK bP [⟨.par,.lst [.int a,.int b]⟩,⟨.val,.tup (cs.map D.str)⟩] K:=by
 have sl:10000<=sizeLine:=by decide
 have lc:(cs.map D.str).length=cs.length:=List.length_map _
 unfold bP
 rw[fO]
 show RS cM [_,_,none,none,none] _
 rw[show cM=cH _ (cH _ (cH _ (cH _ bN4)))from rfl]
 walk_at "dx"
 refine bY (by decide) (by decide) fun f a1 b1 f0 f1=>?_
 walk_at "dx"
 refine bY (by omega) (by omega) fun g a2 b2 g0 g1=>?_
 walk_at "dx"
 split
 ·exact⟨Nat.zero_le _,k [] _ _ (by simp) (by simp)⟩
 split
 ·split
  ·obtain⟨i,rfl⟩:∃ i:Nat,g=i:=⟨g.toNat,by omega⟩
   have e1:=zG D.str cs i
   have e2:=zG D.str cs 1
   have e3:=bX6 D.str cs i
   rw[e1,show pN (cs.map D.str) none (some 1)=(cs.take 1).map D.str from e2,e3,← List.map_append,← List.map_append]
   have l1:(cs.take i).length<=cs.length:=by rw[List.length_take];omega
   have l2:(cs.take 1).length<=1:=by rw[List.length_take];omega
   have l3:(cs.take i++cs.take 1++cs.drop i).length<=cs.length+1:=by
    rw[List.length_append,List.length_append,List.length_take,List.length_take,List.length_drop];omega
   refine⟨by rw[List.length_map,List.length_map];omega,?_,k _ _ _ (by omega) fun z hz=>?_⟩
   ·rw[List.length_map,List.length_map,List.length_append,List.length_drop];omega
   ·rcases List.mem_append.mp hz with h | h
    ·rcases List.mem_append.mp h with h | h
     ·exact ht z (List.mem_of_mem_take h)
     ·exact ht z (List.mem_of_mem_take h)
    ·exact ht z (List.mem_of_mem_drop h)
  ·exact cE5 hn hc ht k
 ·exact cE5 hn hc ht k
open PySem L2 Dv Sx
noncomputable def uD:DS:=(cH (fL 2 (bL 2 aH (aC (aM 0) (aC (dCB jL (aC (aM 1) bD)) bD))))
 (cH (cJ6 (pM 2 (dW (dgN 5) (dW (dgN 4) pL))) (bA ixD (aM 1) (aM 2)))
 (cH (jN (eQ (bA (eqD false) (aM 3) (dC (.int 1)))) (fZ (lZ bD)) dN)
 (cH (jN (eQ (bA (eqD false) (aM 3) (dC (.int 2)))) (cH (fL 5 (bA ixD (yH (aC (dC (.str "")) (aC (dC (.str "abcdefg")) (aC (dC (.str "T")) (aC (dC (.str "a 1")) (aC (dC (.str "x\n")) (aC (dC (.str "t2")) bD))))))) (bL 2 aH (aC (aM 0) (aC (dC (.int 6)) bD)))))
 (fZ (bA dQ (bA dQ (dSl (aM 1) jM (dP (aM 2))) (lZ (aC (lZ (aC (dFz (aM 5)) (aC (dFz (aM 4)) bD))) bD))) (dSl (aM 1) (dP (bA dQ (aM 2) (dC (.int 1)))) jM)))) dN)
 (fZ (bA dQ (bA dQ (dSl (aM 1) jM (dP (aM 2))) (lZ (aC (lZ (aC (dFz (aM 5)) (aC (dFz (bL 2 bP (aC (aM 0) (aC (aM 4) bD)))) bD))) bD))) (dSl (aM 1) (dP (bA dQ (aM 2) (dC (.int 1)))) jM)))))))
noncomputable def bN5:DS:=(fZ (bA dQ (bA dQ (dSl (aM 1) jM (dP (aM 2))) (lZ (aC (lZ (aC (dFz (aM 5)) (aC (dFz (aM 4)) bD))) bD))) (dSl (aM 1) (dP (aM 2)) jM)))
noncomputable def bN6:DS:=(cH (fL 5 (bA ixD (yH (aC (dC (.str "spare")) (aC (dC (.str "other")) bD))) (bL 2 aH (aC (aM 0) (aC (dC (.int 2)) bD)))))
 (cH (jN (cJ4 (eQ (bA gtI (dCB jL (aC (aM 1) bD)) (dC (.int 0)))) (eQ (bA (eqD false) (bL 2 aH (aC (aM 0) (aC (dC (.int 2)) bD))) (dC (.int 0))))) (fL 5 (bA ixD (bA ixD (aM 1) (bL 2 aH (aC (aM 0) (aC (dCB jL (aC (aM 1) bD)) bD)))) (dC (.int 0)))) dN)
 bN5))
noncomputable def bN7:DS:=(cH (fL 4 (dSl (lZ (aC (dC (.str "va")) (aC (dC (.str "vb")) bD))) jM (dP (bA dQ (dC (.int 1)) (bL 2 aH (aC (aM 0) (aC (dC (.int 2)) bD)))))))
 (cH (jN (eQ (bA gtI (dCB jL (aC (aM 1) bD)) (dC (.int 0)))) (fL 4 (bA ixD (bA ixD (aM 1) (bL 2 aH (aC (aM 0) (aC (dCB jL (aC (aM 1) bD)) bD)))) (dC (.int 1)))) dN)
 bN6))
def Pq(n:Nat)(q:Str×List Str):Prop:=Tx q.1/\q.2.length<=n/\∀ z∈q.2,Tx z
def Qb(n:Nat)(qs:List (Str×List Str)):Prop:=qs.length<=n/\∀ q∈qs,Pq n q
theorem Pq.up{n m:Nat}{q:Str×List Str}(h:Pq n q)(w:n<=m):Pq m q:=⟨h.1,Nat.le_trans h.2.1 w,h.2.2⟩
theorem bN8{a b a0 b0 g x3:Int}{qs:List (Str×List Str)}{nm:Str}{own:List Str}{n:Nat}(hn:n<=1000)(hq:Qb n qs)(hp:Pq (2*n+5) (nm,own)){K:Res->List Sl->Prop}(k:∀ qs' a' b',Qb (2*n+5) qs'->K (.val (qD qs')) [⟨.par,.lst [.int a',.int b']⟩,⟨.val,qD qs⟩]) :
  RS bN5 [some ⟨.par,.lst [.int a,.int b]⟩,some ⟨.val,qD qs⟩,some ⟨.val,.int g⟩,some ⟨.val,.int x3⟩,some ⟨.val,.tup (own.map D.str)⟩,some ⟨.val,.str nm⟩] (SqK uD (bE1 [⟨.par,.lst [.int a0,.int b0]⟩,⟨.val,qD qs⟩] K)):=by
 unfold bN5
 walk_at "dx"
 refine⟨sl2,aM0 qP qs (by have:=hq.1;omega) (P:=Pq (2*n+5)) (y:=(nm,own)) (fun q h=>(hq.2 q h).up (by omega)) hp (J:=fun l=>K (.val (.tup l)) _) fun l' h1 h2=>k _ _ _ ⟨by have:=hq.1;omega,h2⟩⟩
theorem cP2{e:Int}(h0:0<=e)(h1:e < 2):∃ z:Str,atI [D.str "spare",D.str "other"] e=some (.str z)/\Tx z:=by
 have:e=0\/e=1:=by omega
 rcases this with rfl | rfl<;>exact⟨_,rfl,zH _ (by decide) (by decide)⟩
theorem cE6{a b a0 b0 g x3:Int}{qs:List (Str×List Str)}{own:List Str}{n:Nat}(hn:n<=1000)(hq:Qb n qs)(ho:own.length<=2*n+5)(ht:∀ z∈own,Tx z){K:Res->List Sl->Prop}(k:∀ qs' a' b',Qb (2*n+5) qs'->K (.val (qD qs')) [⟨.par,.lst [.int a',.int b']⟩,⟨.val,qD qs⟩]) :
  RS bN6 [some ⟨.par,.lst [.int a,.int b]⟩,some ⟨.val,qD qs⟩,some ⟨.val,.int g⟩,some ⟨.val,.int x3⟩,some ⟨.val,.tup (own.map D.str)⟩,none] (SqK uD (bE1 [⟨.par,.lst [.int a0,.int b0]⟩,⟨.val,qD qs⟩] K)):=by
 have lc:(qs.map qP).length=qs.length:=List.length_map _
 have hl:=hq.1
 unfold bN6
 walk_at "dx"
 refine⟨sl2,bY (by decide) (by decide) fun e a1 b1 e0 e1=>?_⟩
 obtain⟨z,hz,tz⟩:=cP2 e0 e1
 walk_at "dx"
 rw[hz]
 walk_at "dx"
 split
 ·refine bY (by decide) (by decide) fun e2 a2 b2 _ _=>?_
  walk_at "dx"
  split
  ·refine bY (by omega) (by omega) fun e3 a3 b3 e30 e31=>?_
   obtain⟨q,hq3,mq⟩:=bM4 qP (l:=qs) e30 (by omega)
   walk_at "dx"
   rw[hq3]
   walk_at "dx"
   exact bN8 (nm:=q.1) (own:=own) hn hq ⟨(hq.2 q mq).1,ho,ht⟩ k
  ·exact bN8 (nm:=z) (own:=own) hn hq ⟨tz,ho,ht⟩ k
 ·exact bN8 (nm:=z) (own:=own) hn hq ⟨tz,ho,ht⟩ k
theorem cE7{a b a0 b0 g x3:Int}{qs:List (Str×List Str)}{n:Nat}(hn:n<=1000)(hq:Qb n qs){K:Res->List Sl->Prop}(k:∀ qs' a' b',Qb (2*n+5) qs'->K (.val (qD qs')) [⟨.par,.lst [.int a',.int b']⟩,⟨.val,qD qs⟩]) :
  RS bN7 [some ⟨.par,.lst [.int a,.int b]⟩,some ⟨.val,qD qs⟩,some ⟨.val,.int g⟩,some ⟨.val,.int x3⟩,none,none] (SqK uD (bE1 [⟨.par,.lst [.int a0,.int b0]⟩,⟨.val,qD qs⟩] K)):=by
 have lc:(qs.map qP).length=qs.length:=List.length_map _
 have hl:=hq.1
 unfold bN7
 walk_at "dx"
 refine⟨sl2,bY (by decide) (by decide) fun e a1 b1 e0 e1=>?_⟩
 obtain⟨w,ew,w1,w2⟩:=sI D.str [Str.ofString "va",Str.ofString "vb"] none (some (1+e))
 have w3:w.length<=2:=w1
 have tw:∀ z∈w,Tx z:=fun z hz=>dK8 z (by
  have:=w2 z hz
  simp only[List.mem_cons,List.not_mem_nil,or_false]at this ⊢
  rcases this with h | h
  ·exact .inl h
  ·exact .inr (.inl h))
 walk_at "dx"
 rw[show pN [D.str (Str.ofString "va"),D.str (Str.ofString "vb")] none (some (1+e))=w.map D.str from ew]
 split
 ·refine bY (by omega) (by omega) fun e3 a3 b3 e30 e31=>?_
  obtain⟨q,hq3,mq⟩:=bM4 qP (l:=qs) e30 (by omega)
  have hqm:=hq.2 q mq
  walk_at "dx"
  rw[hq3]
  walk_at "dx"
  exact cE6 hn hq (by have:=hqm.2.1;omega) hqm.2.2 k
 ·exact cE6 hn hq (by omega) tw k
theorem dB6{e:Int}(h0:0<=e)(h1:e < 6):∃ z:Str,atI [D.str "",D.str "abcdefg",D.str "T",D.str "a 1",D.str "x\n",D.str "t2"] e=some (.str z)/\Tx z:=by
 have:e=0\/e=1\/e=2\/e=3\/e=4\/e=5:=by omega
 rcases this with rfl | rfl | rfl | rfl | rfl | rfl<;>exact⟨_,rfl,zH _ (by decide) (by decide)⟩
theorem dB7{a b a0 b0 g f:Int}{qs:List (Str×List Str)}{n:Nat}(hn:n<=1000)(hq:Qb n qs)(h0:0 < qs.length){K:Res->List Sl->Prop}(k:∀ qs' a' b',Qb (2*n+5) qs'->K (.val (qD qs')) [⟨.par,.lst [.int a',.int b']⟩,⟨.val,qD qs⟩]) :
  RS uD [some ⟨.par,.lst [.int a,.int b]⟩,some ⟨.val,qD qs⟩,some ⟨.val,.int g⟩,some ⟨.val,.int f⟩,none,none] (bE1 [⟨.par,.lst [.int a0,.int b0]⟩,⟨.val,qD qs⟩] K):=by
 have lc:(qs.map qP).length=qs.length:=List.length_map _
 have hl:=hq.1
 unfold uD
 walk_at "dx"
 refine bY (by omega) (by omega) fun e a1 b1 e0 e1=>?_
 obtain⟨q,hq3,mq⟩:=bM4 qP (l:=qs) e0 (by omega)
 have hqm:=hq.2 q mq
 walk_at "dx"
 rw[hq3]
 walk_at "dx"
 split
 ·exact⟨Nat.zero_le _,k [] _ _ ⟨by simp,by simp⟩⟩
 split
 ·refine⟨by decide,bY (by decide) (by decide) fun e2 a2 b2 e20 e21=>?_⟩
  obtain⟨z,hz,tz⟩:=dB6 e20 e21
  walk_at "dx"
  rw[hz]
  walk_at "dx"
  exact⟨sl2,aM0 qP qs (by omega) (P:=Pq (2*n+5)) (y:=(z,q.2)) (fun q h=>(hq.2 q h).up (by omega)) ⟨tz,by have:=hqm.2.1;show q.2.length<=_;omega,hqm.2.2⟩ (J:=fun l=>K (.val (.tup l)) _) fun l' h1 h2=>k _ _ _ ⟨by omega,h2⟩⟩
 ·refine sZ hn hqm.2.1 hqm.2.2 fun cs' a2 b2 c1 c2=>?_
  walk_at "dx"
  exact⟨sl2,aM0 qP qs (by omega) (P:=Pq (2*n+5)) (y:=(q.1,cs')) (fun q h=>(hq.2 q h).up (by omega)) ⟨hqm.1,c1,c2⟩ (J:=fun l=>K (.val (.tup l)) _) fun l' h1 h2=>k _ _ _ ⟨by omega,h2⟩⟩
theorem aQ6{a b:Int}{qs:List (Str×List Str)}{n:Nat}(hn:n<=1000)(hq:Qb n qs){K:Res->List Sl->Prop}(k:∀ qs' a' b',Qb (2*n+5) qs'->K (.val (qD qs')) [⟨.par,.lst [.int a',.int b']⟩,⟨.val,qD qs⟩]) :
  CK dH [⟨.par,.lst [.int a,.int b]⟩,⟨.val,qD qs⟩] K:=by
 have lc:(qs.map qP).length=qs.length:=List.length_map _
 have hl:=hq.1
 unfold dH
 rw[fO]
 show RS eA [_,_,none,none,none,none] _
 rw[show eA=cH _ (cH _ (cH (jN _ bN7 _) uD))from rfl]
 walk_at "dx"
 refine bY (by omega) (by omega) fun g a1 b1 g0 g1=>?_
 walk_at "dx"
 refine bY (by decide) (by decide) fun f a2 b2 f0 f1=>?_
 walk_at "dx"
 split
 ·exact cE7 hn hq k
 split
 ·exact cE7 hn hq k
 ·exact dB7 hn hq (by omega) k
open PySem L2 Dv Sx
theorem cP3{as:List Sl}{K:Res->List Sl->Prop}{o:Out}(h:bE1 as K o):dK2 as K o:=by
 cases o with
 | nx σ=>exact h
 | rt r σ=>exact oY.mp h
 | bk σ=>exact h
 | ct σ=>exact h
 | ex c f σ=>exact h
def bnd:Nat->Nat
 | 0=>10
 | 1=>25
 | _=>55
theorem bX7{i:Nat}(h:i < 2):2*bnd i+5<=bnd (i+1):=by
 have:i=0\/i=1:=by omega
 rcases this with rfl | rfl<;>decide
theorem cE8(i:Nat):bnd i<=55:=by
 unfold bnd;split<;>omega
theorem dB8{n m:Nat}{qs:List (Str×List Str)}(h:Qb n qs)(w:n<=m):Qb m qs:=⟨Nat.le_trans h.1 w,fun q hq=>(h.2 q hq).up w⟩
theorem dB9{n:Nat}{qs:List (Str×List Str)}(h:Qb n qs)(w:n<=100):Qn qs:=dB8 h w
theorem bX8(ns:List Int)(hn:ns.length<=63):sH [⟨.val,.lst (ns.map D.int)⟩] fun y _=>y=.val (.bl true):=by
 unfold sH dD0
 refine aF6 _ _ _ (fun o h=>cP3 h) ?_
 show uC [_,none,none,none,none,none] _
 unfold uC
 show RS _ _ (sqM _ _)
 walk_at "dx"
 refine cD7 (by decide) (by decide) fun a b=>?_
 walk_at "dx"
 show(_/\_)/\cQ _ _
 refine⟨⟨rfl,rfl⟩,a,b,3,rfl,by decide,by decide,fun qs a1 b1 hqs=>?_⟩
 show RS _ [some ⟨.val,.lst (ns.map D.int)⟩,some ⟨.own,.lst [.int a1,.int b1]⟩,some ⟨.val,qD qs⟩,none,none,none] _
 have hq0:Qb 10 qs:=⟨by have:=hqs.2.1;omega,fun q h=>hqs.2.2 q h⟩
 have hqn:Qn qs:=dB9 hq0 (by decide)
 walk_at "dx"
 refine xB hqn ?_
 walk_at "dx"
 refine wU (fun i τ=>∃ a b x3 x4 x5 d3 d4 d5,τ=[_,some ⟨.own,.lst [.int a,.int b]⟩,_,ov x3 d3,ov x4 d4,ov x5 d5]) ⟨a1,b1,false,false,false,.non,.non,.non,rfl⟩ ?_ ?_
 ·rintro i d τ hd ⟨a,b,x3,x4,x5,d3,d4,d5,rfl⟩
  obtain⟨hi,rfl⟩:=nT hd
  have hi3:i < 3:=hi
  walk_at "dx"
  refine cD7 (by omega) (by omega) fun a2 b2=>?_
  walk_at "dx"
  refine bY (by decide) (by decide) fun e a3 b3 e0 e1=>?_
  walk_at "dx"
  refine⟨by omega,?_⟩
  refine wU (fun j τ=>j<=2/\∃ a b x5 d5 qs',Qb (bnd j) qs'/\τ=[_,some ⟨.own,.lst [.int a,.int b]⟩,_,_,some ⟨.val,qD qs'⟩,ov x5 d5]) ⟨by omega,a3,b3,x5,d5,qs,hq0,rfl⟩ ?_ ?_
  ·rintro j d τ hd ⟨_,a,b,x5,d5,qs',hb,rfl⟩
   obtain⟨hj,rfl⟩:=nT hd
   have hj2:j < 2:=by omega
   have q1:=bX7 hj2
   have q2:=cE8 j
   walk_at "dx"
   refine aQ6 (n:=bnd j) (by omega) hb fun qs2 a6 b6 u=>?_
   walk_at "dx"
   exact⟨_,.inl rfl,by omega,a6,b6,true,_,qs2,dB8 u q1,rfl⟩
  ·rintro τ ⟨_,a,b,x5,d5,qs',hb,rfl⟩
   have q2:=cE8 (aA9 0 (1+e).toNat).length
   walk_at "dx"
   refine xB (dB9 hb (by omega)) ?_
   walk_at "dx"
   refine xB hqn ?_
   walk_at "dx"
   exact⟨_,.inl rfl,a,b,true,true,x5,_,_,d5,rfl⟩
 ·rintro τ ⟨a,b,x3,x4,x5,d3,d4,d5,rfl⟩
  walk_at "dx"
open PySem L2
local macro_rules | `(tactic| walk_at "sx")=>`(tactic| simp only[↓qZ,↓uR,↓aH7,↓uU,↓aH8,↓aH9,↓uT,↓pX,↓uV,↓uM,↓uN,↓dC5,↓bQ2,↓bQ3,↓aH2,↓aN5,↓bQ4,↓uO,↓bQ5,↓aH3,↓bQ6,↓aH4,↓uP,↓aH5,↓uQ,↓pW,↓aH6,↓aI0,↓uW,↓uX,↓bQ7,↓bQ8,↓mK,↓uY,↓mL,↓uZ,↓qC,↓qA,↓aI3,↓aI4,↓aJ0,↓aJ1,↓bR7,↓aI9,↓vC,↓aI5,↓vD,↓pY,↓vE,↓vF,↓reduceIte,↓mM,↓mO,↓vI,↓vJ,↓vK,↓qE,↓vL,↓qF,↓bT1,dC6,List.set_cons_zero,List.set_cons_succ,aI2,bR6,Int.reducePow,Int.reduceNeg,Int.reduceLT,Int.reduceLE,Int.reduceAdd])
local macro_rules | `(tactic| walk_at "sy")=>`(tactic| simp only[↓uR,↓aH7,↓uU,↓aH8,↓aH9,↓uT,↓pX,↓uV,↓uM,↓uN,↓dC5,↓bQ2,↓bQ3,↓aH2,↓aN5,↓bQ4,↓uO,↓bQ5,↓aH3,↓bQ6,↓aH4,↓uP,↓aH5,↓uQ,↓pW,↓aH6,↓aI0,↓uW,↓uX,↓bQ7,↓bQ8,↓mK,↓uY,↓mL,↓uZ,↓qC,↓qA,↓aI3,↓aI4,↓aJ0,↓aJ1,↓bR7,↓aI9,↓vC,↓aI5,↓vD,↓pY,↓vE,↓vF,↓reduceIte,↓mM,↓mO,↓vI,↓vJ,↓vK,↓qE,↓vL,↓qF,↓bT1,dC6,List.set_cons_zero,List.set_cons_succ,aI2,bR6,Int.reducePow,Int.reduceNeg,Int.reduceLT,Int.reduceLE,Int.reduceAdd])
section
variable{P:Program}{w:World}{K:PySem.W.Frag}{mg:Str->Option Value}{base:Heap}{a:Adr}
theorem zI(T:Txt K mg a):FnOk P w K mg base CX0 1 a.law_take a.fd_law_take ["_law_box_here","_law_many"] (eU K):=by
 refine T.F_law_take.ok jA (fun vs H Q E h=>?_) (fun cdv A outer s H vs Q E hr h=>?_)
 ·obtain⟨p,m,rfl,_⟩:=h
  rfl
 ·obtain⟨p,m,rfl,⟨i,j,hp⟩,h1,h2,k⟩:=h
  have nd:=jA.nd
  refine⟨_,(aW (nX (cN pI (jJ xD (pv 0) aV (fun _ _=>rfl)) aV (bC _)) (aW (cS (i:=2) nd rfl (Or.inl rfl) (fP fV (jJ xD (pv 0) aV (fun _ _=>rfl)) (pv 1)))
   (aW (oN (fP aS0 (jJ xD (pv 0) aV (fun _ _=>rfl)) (pv 1)) (xG (pv 0) aV mG))
   (bH (mF (pv 2))))) fU)
   (aW (cS (i:=3) nd rfl (Or.inl rfl) (fP fV (fP aI6 (jJ xD (pv 0) aV (fun _ _=>rfl)) aV) aV))
   (aW (oN (fP gZ (fP fV (fP gZ (fP aI6 (pv 3) aV) aV) aV) aV) (xG (pv 0) aV mG))
   (bH (mF (fP fV (fP aS0 (fP gZ (fP aI6 (pv 3) aV) (jJ xD (pv 0) aV (fun _ _=>rfl))) aV) (pv 1))))))),?_⟩
  rw[show dJ ["_law_box_here","_law_many","_law_digit","_law_one"] [.ref p,.int m]=([some (.ref p),some (.int m),none,none]:St)from rfl]
  have e0:ixF H (.ref p) (.int 0)=some (.int i):=eJ (aU hp) rfl
  have e1:ixF H (.ref p) (.int 1)=some (.int j):=eJ (aU hp) rfl
  have cm:∀ x,bP0 x 69623:=fun x=>dF7 (by decide) (by decide)
  have cd:∀ x,cS3 x m:=fun x=>⟨h1,h2⟩
  try walk_at "sx"
  rw[jS e0]
  try walk_at "sx"
  refine tG (fun hc=>?_) (fun hc=>?_)
  ·rw[jS e0,aT9 h1]
   try walk_at "sx"
   rw[jS e0,cH2 (cd _)]
   try walk_at "sx"
   rw[aT8 (k:=0) (j:=0) hp rfl]
   exact k _ _ (Int.emod_nonneg _ (by omega)) (Int.emod_lt_of_pos _ h1) ⟨_,_,aG⟩ fun b o hb e=>by rw[aF hb];exact e
  ·rw[jS e1]
   try walk_at "sx"
   rw[aT8 (k:=1) (j:=1) hp rfl]
   try walk_at "sx"
   rw[jS (eJ (aU aG) rfl)]
   try walk_at "sx"
   rw[aT9 h1]
   exact k _ _ (Int.emod_nonneg _ (by omega)) (Int.emod_lt_of_pos _ h1) ⟨_,_,aG⟩ fun b o hb e=>by rw[aF hb];exact e
theorem xC(T:Txt K mg a)(G_law_take:FnOk P w K mg base CX0 1 a.law_take a.fd_law_take ["_law_box_here","_law_many"] (eU K)):FnOk P w K mg base CX0 2 a.law_order a.fd_law_order ["_law_box_here","_law_things"] (fA K):=by
 refine T.F_law_order.ok pD (fun vs H Q E h=>?_) (fun cdv A outer s H vs Q E hr h=>?_)
 ·obtain⟨p,q,b,xs,rfl,_⟩:=h
  rfl
 ·obtain⟨p,q,b,xs,rfl,hb,hq,hx,k⟩:=h
  have nd:=pD.nd
  refine⟨_,(aW (cS (i:=2) nd rfl (Or.inl rfl) (dD kP (by rfl) T.n_list (nI) (aD (pv 1) aN)))
   (aW (cS (i:=3) nd rfl (Or.inl rfl) (oO aN))
   (aW (bO9 PassesOwn.never (cN pI (aO aR (by rfl) T.n_len (aX) (aD (pv 2) aN)) aV (bC _)) (bH (fM (hX K rfl PySem.F.plainAttrs_list PySem.F.slot_list_append PySem.F.type_list_append fW (pv 3) (aD (hX K rfl PySem.F.plainAttrs_list PySem.F.slot_list_pop PySem.F.type_list_pop bP7 (pv 2) (aD (aK G_law_take (hr.mono (by decide)) rfl T.m_law_take T.F_law_take.kp (aL T) .nil bE (aD (pv 0) (aD (aO aR (by rfl) T.n_len (aX) (aD (pv 2) aN)) aN))) aN)) aN)))))
   (bH (mF (pv 3)))))),?_⟩
  rw[show dJ ["_law_box_here","_law_things","_law_left","_law_found"] [.ref p,.ref q]=([some (.ref p),some (.ref q),none,none]:St)from rfl]
  try walk_at "sx"
  refine up (qB hq) ?_
  intro l hl
  have hpl:l≠p:=by obtain⟨i,j,e⟩:=hb;exact(aE e hl).symm
  refine⟨Nat.zero_le _,fun f hf=>?_⟩
  have hfl:l≠f:=aE aG hf
  have hfp:f≠p:=by obtain⟨i,j,e⟩:=hb.upd (o:=.lst xs) hl;exact(aE e hf).symm
  have hf0:H f=none:=by rw[aF hfl.symm]at hf;exact hf
  refine cH8 (fun m σ H2=>∃ zs fs,m=zs.length/\σ=[some (.ref p),some (.ref q),some (.ref l),some (.ref f)]/\H2 l=some (.lst zs)/\H2 f=some (.lst fs)/\(fs++zs).Perm xs/\bS H2 p/\SameBut p H H2) xs.length
   ⟨xs,[],rfl,rfl,by rw[aF hfl];exact aG,aG,by simpa using List.Perm.refl xs,(hb.upd hl).upd hf,fun b o _ e=>by
    rw[aF (aE (H:=upd H l (.lst xs)) (by rw[aF (aE e hl)];exact e) hf),aF (aE e hl)];exact e⟩ ?_
  rintro m σ H2 N ⟨zs,fs,rfl,rfl,hz,hfs,hperm,hb2,hs2⟩ hN
  have hlen:fs.length+zs.length=xs.length:=by rw[← hperm.length_eq,List.length_append]
  try walk_at "sx"
  rw[eC (aU hz)]
  try walk_at "sx"
  refine tG (fun hc=>?_) (fun hc=>?_)
  ·have hc':0 < (zs.length:Int):=by simpa using hc
   refine⟨N,fun _ _ h=>h,?_⟩
   refine⟨tyL hfs,tyL hz,?_⟩
   rw[eC (aU hz)]
   refine lY ⟨p,_,rfl,hb2,hc',by omega,fun d H3 d0 d1 hb3 hs3=>?_⟩
   have hz3:=hs3 l _ hpl hz
   have hf3:=hs3 f _ hfp hfs
   have hk:=zM (cV1 d0 d1)
   have hkl:d.toNat < zs.length:=hk.2.1
   have n63:=qT
   refine⟨l,zs,d,d.toNat,zs[d.toNat],rfl,rfl,hz3,by omega,by have:zs.length<=1000:=by omega
                                                             omega,hk.1,List.getElem?_eq_getElem hkl,?_⟩
   refine⟨f,fs,_,rfl,rfl,by rw[aF hfl.symm];exact hf3,Nat.lt_of_le_of_lt (by omega:fs.length<=1000) (by decide),?_⟩
   refine hN _ _ (zs.eraseIdx d.toNat).length (by rw[List.length_eraseIdx_of_lt hkl];omega) ⟨_,_,rfl,rfl,by rw[aF hfl,aG],aG,?_,?_,?_⟩
   ·refine List.Perm.trans ?_ hperm
    rw[List.append_assoc]
    exact List.Perm.append_left fs (tJ zs _ hkl)
   ·obtain⟨i,j,e⟩:=hb3
    exact⟨i,j,by rw[aF hfp.symm,aF hpl.symm];exact e⟩
   ·intro b o hb' e
    have e2:=hs3 b o hb' (hs2 b o hb' e)
    rw[aF (aE e hf0),aF (aE e hl)]
    exact e2
  ·have hz0:zs=[]:=by
    have:¬ (0 < (zs.length:Int)):=by simpa using hc
    exact List.eq_nil_of_length_eq_zero (by omega)
   subst hz0
   exact k f fs H2 hf0 hfs (by simpa using hperm) hb2 hs2
theorem kY(T:Txt K mg a)(G_law_order:FnOk P w K mg base CX0 2 a.law_order a.fd_law_order ["_law_box_here","_law_things"] (fA K)):FnOk P w K mg base CX0 3 a.law_some_columns a.fd_law_some_columns ["_law_box_here","_law_names_here","_law_many"] (cV K):=by
 refine T.F_law_some_columns.ok gD (fun vs H Q E h=>?_) (fun cdv A outer s H vs Q E hr h=>?_)
 ·obtain⟨p,q,b,xs,m,rfl,_⟩:=h
  rfl
 ·obtain⟨p,q,b,xs,m,rfl,hb,hq,hx,m0,k⟩:=h
  have nd:=gD.nd
  refine⟨_,(bH (mF (dD mP (by rfl) T.n_tuple (iH) (aD (kL cB3 (aK G_law_order (hr.mono (by decide)) rfl T.m_law_order T.F_law_order.kp (gG T) .nil bE (aD (pv 0) (aD (pv 1) aN))) nY (nZ (pv 2))) aN)))),?_⟩
  rw[show dJ ["_law_box_here","_law_names_here","_law_many"] [.ref p,.ref q,.int m]=([some (.ref p),some (.ref q),some (.int m)]:St)from rfl]
  try walk_at "sx"
  refine lY ⟨p,q,b,xs,rfl,hb,hq,hx,fun r ys H1 hr e1 hp hb1 hs1=>?_⟩
  try walk_at "sx"
  refine xV (aU e1) fun l hl=>?_
  refine up (zU (aU aG)) ?_
  intro t ht
  rw[iT m0]
  refine k t (ys.take m.toNat) _ ((hs1.upd hl).none (hb1.upd hl) (by rw[iT m0]at ht;exact ht)) aG (by rw[List.length_take,hp.length_eq]) (fun y hy=>hp.mem_iff.mp (List.mem_of_mem_take hy)) ?_ ?_
  ·rw[iT m0]at ht;exact(hb1.upd hl).upd ht
  ·rw[iT m0]at ht;exact(hs1.upd hl).upd ht
theorem nU(T:Txt K mg a)(G_law_take:FnOk P w K mg base CX0 1 a.law_take a.fd_law_take ["_law_box_here","_law_many"] (eU K))(G_law_some_columns:FnOk P w K mg base CX0 3 a.law_some_columns a.fd_law_some_columns ["_law_box_here","_law_names_here","_law_many"] (cV K)):FnOk P w K mg base CX0 4 a.law_any_tables a.fd_law_any_tables ["_law_box_here","_law_names_here"] (hV K):=by
 refine T.F_law_any_tables.ok iI (fun vs H Q E h=>?_) (fun cdv A outer s H vs Q E hr h=>?_)
 ·obtain⟨p,q,zs,rfl,_⟩:=h
  rfl
 ·obtain⟨p,q,zs,rfl,hb,hq,hl6,hsh,k⟩:=h
  have nd:=iI.nd
  refine⟨_,(aW (cS (i:=2) nd rfl (Or.inl rfl) (kL cB3 (pv 1) nY (nZ (fP gZ aV (aK G_law_take (hr.mono (by decide)) rfl T.m_law_take T.F_law_take.kp (aL T) .nil bE (aD (pv 0) (aD aV aN)))))))
   (aW (cS (i:=3) nd rfl (Or.inl rfl) (oO aN))
   (aW (jO PassesOwn.never rfl (eW rfl T.n_range (aD (fP gZ aV (aK G_law_take (hr.mono (by decide)) rfl T.m_law_take T.F_law_take.kp (aL T) .nil bE (aD (pv 0) (aD aV aN)))) aN)) (bG (i:=4) nd rfl (Or.inl rfl))
   (bH (fM (hX K rfl PySem.F.plainAttrs_list PySem.F.slot_list_append PySem.F.type_list_append fW (pv 3) (aD (aK G_law_some_columns (hr.mono (by decide)) rfl T.m_law_some_columns T.F_law_some_columns.kp (eM T) .nil bE (aD (pv 0) (aD (pv 2) (aD (fP gZ aV (aK G_law_take (hr.mono (by decide)) rfl T.m_law_take T.F_law_take.kp (aL T) .nil bE (aD (pv 0) (aD (aO (qU rfl) (by rfl) T.n_min (wN) (aD aV (aD (aO aR (by rfl) T.n_len (aX) (aD (pv 2) aN)) aN))) aN)))) aN)))) aN)))))
   (bH (mF (pv 3)))))),?_⟩
  rw[show dJ ["_law_box_here","_law_names_here","_law_pool","_law_found","_law_k"] [.ref p,.ref q]=([some (.ref p),some (.ref q),none,none,none]:St)from rfl]
  have hqp:q≠p:=by obtain⟨i,j,e⟩:=hb;intro z;subst z;rw[hq]at e;exact absurd (congrArg (fun o=>match o with | some (HO.lst l)=>l.length | _=>0) e) (by simp[hl6])
  try walk_at "sx"
  refine lY ⟨p,6,rfl,hb,by decide,by decide,fun d1 H1 d10 d11 hb1 hs1=>?_⟩
  try walk_at "sx"
  refine xV (aU (hs1 q _ hqp hq)) fun pool hpool=>?_
  have epool:pU (zs.map V.str) none (some (1+d1))=(zs.take (1+d1).toNat).map V.str:=by rw[iT (by omega),List.map_take]
  have plen:(zs.take (1+d1).toNat).length=(1+d1).toNat:=by rw[List.length_take,hl6];omega
  have psh:gS (zs.take (1+d1).toNat):=fun z hz=>hsh z (List.mem_of_mem_take hz)
  rw[epool]
  generalize zs.take (1+d1).toNat=pl at plen psh ⊢
  try walk_at "sx"
  refine⟨Nat.zero_le _,fun f hf=>?_⟩
  have hb2:bS (upd (upd H1 pool (.lst (pl.map V.str))) f (.lst [])) p:=(hb1.upd hpool).upd hf
  have hs2:SameBut p H (upd (upd H1 pool (.lst (pl.map V.str))) f (.lst [])):=(hs1.upd hpool).upd hf
  have hfp:f≠p:=(hb1.upd hpool).ne hf
  have hpp:pool≠p:=hb1.ne hpool
  have hpf:pool≠f:=aE aG hf
  have hf0:H f=none:=(hs1.upd hpool).none (hb1.upd hpool) hf
  refine lY ⟨p,6,rfl,hb2,by decide,by decide,fun d2 H3 d20 d21 hb3 hs3=>?_⟩
  try walk_at "sx"
  refine⟨_,rfl,by omega,by omega,?_⟩
  refine aI1 (P:=fun _=>True) kO (fun i σ H2=>∃ (es:List V) (o4:Option V),σ=[some (V.ref p),some (V.ref q),some (V.ref pool),some (V.ref f),o4]/\H2 f=some (.lst es)/\es.length=i/\hU H2 es/\H2 pool=some (.lst (pl.map V.str))/\bS H2 p/\SameBut p H H2)
   ⟨[],none,rfl,hs3 f _ hfp aG,rfl,(fun e he=>nomatch he),hs3 pool _ hpp (by rw[aF hpf];exact aG),hb3,hs2.trans hs3⟩ (fun _ _ _ _=>trivial) ?_ ?_
  ·rintro i x σ H2 hx ⟨es,o4,rfl,hfe,hel,hse,hpe,hb4,hs4⟩
   have hi:=(kN hx).1
   try walk_at "sx"
   refine⟨tyL hfe,?_⟩
   rw[eC (aU hpe)]
   try walk_at "sx"
   refine lY ⟨p,_,rfl,hb4,by rw[List.length_map,plen];omega,by omega,fun d5 H5 d50 d51 hb5 hs5=>?_⟩
   try walk_at "sx"
   refine lY ⟨p,pool,true,_,_,rfl,hb5,aU (hs5 pool _ hpp hpe),by rw[List.length_map,plen];omega,by omega,fun r ys H6 hr e6 hyl hym hb6 hs6=>?_⟩
   obtain⟨cs,rfl,hcs⟩:=lN hym
   have hf6:=hs6 f _ hfp (hs5 f _ hfp hfe)
   refine⟨f,es,_,rfl,rfl,hf6,Nat.lt_of_le_of_lt (by omega:es.length<=6) (by decide),?_⟩
   have tx:eD H2 H6:=(hs5.tup hb4).trans (hs6.tup hb5)
   refine⟨es++[.ref r],_,rfl,aG,by simp[hel],?_,?_,hb6.put hfp,((hs4.trans hs5).trans hs6).put hf0⟩
   ·intro e he
    rcases List.mem_append.mp he with h | h
    ·exact(hse.mono (tx.trans (iV hf6))) e h
    ·rw[List.mem_singleton.mp h]
     refine⟨r,cs,rfl,iV hf6 _ _ e6,?_,fun c hc=>psh c (hcs c hc)⟩
     rw[List.length_map]at hyl
     rw[List.length_map]at hyl
     omega
   ·rw[aF hpf]
    exact hs6 pool _ hpp (hs5 pool _ hpp hpe)
  ·rintro σ H2 ⟨es,o4,rfl,hfe,hel,hse,hpe,hb4,hs4⟩
   rw[eS]at hel
   try walk_at "sx"
   exact k f es H2 hf0 hfe (by omega) (by omega) hse hb4 hs4
theorem nV(T:Txt K mg a)(G_law_take:FnOk P w K mg base CX0 1 a.law_take a.fd_law_take ["_law_box_here","_law_many"] (eU K))(G_law_some_columns:FnOk P w K mg base CX0 3 a.law_some_columns a.fd_law_some_columns ["_law_box_here","_law_names_here","_law_many"] (cV K))(G_law_order:FnOk P w K mg base CX0 2 a.law_order a.fd_law_order ["_law_box_here","_law_things"] (fA K)):FnOk P w K mg base CX0 4 a.law_ear_tables a.fd_law_ear_tables ["_law_box_here","_law_names_here"] (hW K):=by
 refine T.F_law_ear_tables.ok iJ (fun vs H Q E h=>?_) (fun cdv A outer s H vs Q E hr h=>?_)
 ·obtain⟨p,q,zs,rfl,_⟩:=h
  rfl
 ·obtain⟨p,q,zs,rfl,hb,hq,hl6,hsh,k⟩:=h
  have nd:=iJ.nd
  refine⟨_,(aW (cS (i:=2) nd rfl (Or.inl rfl) (dD kP (by rfl) T.n_list (nI) (aD (kL cB3 (pv 1) nY (nZ aV)) aN)))
   (aW (cS (i:=3) nd rfl (Or.inl rfl) (oO aN))
   (aW (jO PassesOwn.never rfl (eW rfl T.n_range (aD (fP gZ aV (aK G_law_take (hr.mono (by decide)) rfl T.m_law_take T.F_law_take.kp (aL T) .nil bE (aD (pv 0) (aD aV aN)))) aN)) (bG (i:=4) nd rfl (Or.inl rfl))
   (aW (cS (i:=5) nd rfl (Or.inl rfl) (oO aN))
   (aW (nX (cN pI (pv 4) aV (bC _)) (aW (cS (i:=6) nd rfl (Or.inl rfl) (jJ xD (pv 3) (aK G_law_take (hr.mono (by decide)) rfl T.m_law_take T.F_law_take.kp (aL T) .nil bE (aD (pv 0) (aD (pv 4) aN))) (fun _ _=>rfl)))
   (bH (cS (i:=5) nd rfl (Or.inl rfl) (dD kP (by rfl) T.n_list (nI) (aD (aK G_law_some_columns (hr.mono (by decide)) rfl T.m_law_some_columns T.F_law_some_columns.kp (eM T) .nil bE (aD (pv 0) (aD (pv 6) (aD (aK G_law_take (hr.mono (by decide)) rfl T.m_law_take T.F_law_take.kp (aL T) .nil bE (aD (pv 0) (aD (fP gZ (aO (qU rfl) (by rfl) T.n_min (wN) (aD aV (aD (aO aR (by rfl) T.n_len (aX) (aD (pv 6) aN)) aN))) aV) aN))) aN)))) aN))))) fU)
   (aW (jO PassesOwn.never rfl (eW rfl T.n_range (aD (aK G_law_take (hr.mono (by decide)) rfl T.m_law_take T.F_law_take.kp (aL T) .nil bE (aD (pv 0) (aD (fP cS5 aV (aO aR (by rfl) T.n_len (aX) (aD (pv 5) aN))) aN))) aN)) (bG (i:=7) nd rfl (Or.inl rfl))
   (bH (nX (cN pI (aO aR (by rfl) T.n_len (aX) (aD (pv 2) aN)) aV (bC _)) (bH (fM (hX K rfl PySem.F.plainAttrs_list PySem.F.slot_list_append PySem.F.type_list_append fW (pv 5) (aD (cI5 K rfl PySem.F.plainAttrs_list PySem.F.slot_list_pop PySem.F.type_list_pop cU0 (pv 2)) aN)))) fU)))
   (aW (nX (cN (mR hr.units) (aO aR (by rfl) T.n_len (aX) (aD (pv 5) aN)) aV (bC _)) (bH (cS (i:=5) nd rfl (Or.inl rfl) (bO8 (cN (mR hr.units) (pv 4) aV (bC _)) (oO (aD (jJ xD (pv 1) aV (fun _ _=>rfl)) aN)) (oO (aD (jJ xD (jJ xD (pv 3) aV (fun _ _=>rfl)) aV (fun _ _=>rfl)) aN))))) fU)
   (aW (nX (PW.pt (tD (cN cV0 (jJ xD (pv 1) aV (fun _ _=>rfl)) (pv 5) (by with_unfolding_all rfl)) (qR (cN cV0 (jJ xD (pv 1) aV (fun _ _=>rfl)) (pv 2) (by with_unfolding_all rfl))))) (bH (fM (hX K rfl PySem.F.plainAttrs_list PySem.F.slot_list_remove PySem.F.type_list_remove aU1 (pv 2) (aD (jJ xD (pv 1) aV (fun _ _=>rfl)) aN)))) fU)
   (bH (fM (hX K rfl PySem.F.plainAttrs_list PySem.F.slot_list_append PySem.F.type_list_append fW (pv 3) (aD (dD mP (by rfl) T.n_tuple (iH) (aD (aK G_law_order (hr.mono (by decide)) rfl T.m_law_order T.F_law_order.kp (gG T) .nil bE (aD (pv 0) (aD (pv 5) aN))) aN)) aN))))))))))
   (bH (mF (pv 3)))))),?_⟩
  rw[show dJ ["_law_box_here","_law_names_here","_law_left","_law_found","_law_k","_law_own","_law_one","_law_j"] [.ref p,.ref q]=([some (.ref p),some (.ref q),none,none,none,none,none,none]:St)from rfl]
  have hqp:q≠p:=by obtain⟨i,j,e⟩:=hb;intro z;subst z;rw[hq]at e;exact absurd (congrArg (fun o=>match o with | some (HO.lst l)=>l.length | _=>0) e) (by simp[hl6])
  obtain⟨z0,zr,hz0⟩:∃ z0 zr,zs=z0::zr:=by
   cases zs with
   | nil=>cases hl6
   | cons z r=>exact⟨z,r,rfl⟩
  have hz0s:Shz z0:=hsh z0 (by rw[hz0];exact List.mem_cons_self)
  have at0:∀ H',H' q=some (.lst (zs.map V.str))->ixF H' (.ref q) (.int 0)=some (.str z0):=fun H' e=>eJ (aU e) (by rw[hz0];exact dC7)
  try walk_at "sx"
  refine xV (aU hq) fun l0 hl0=>?_
  refine up (qB (aU aG)) ?_
  intro l hl
  have el:pU (zs.map V.str) none (some 6)=(zs.take 6).map V.str:=by rw[iT (by decide),List.map_take];rfl
  rw[el]at hl ⊢
  have lsh:gS (zs.take 6):=fun z hz=>hsh z (List.mem_of_mem_take hz)
  have llen:(zs.take 6).length<=6:=by rw[List.length_take];omega
  generalize zs.take 6=ls0 at hl lsh llen ⊢
  try walk_at "sx"
  refine⟨Nat.zero_le _,fun f hf=>?_⟩
  have hb1:bS (upd (upd (upd H l0 (.lst (ls0.map V.str))) l (.lst (ls0.map V.str))) f (.lst [])) p:=((hb.upd hl0).upd hl).upd hf
  have hs1:SameBut p H (upd (upd (upd H l0 (.lst (ls0.map V.str))) l (.lst (ls0.map V.str))) f (.lst [])):=((SameBut.refl.upd hl0).upd hl).upd hf
  have hfp:f≠p:=((hb.upd hl0).upd hl).ne hf
  have hlp:l≠p:=(hb.upd hl0).ne hl
  have hlf:l≠f:=aE aG hf
  have hlH:H l=none:=(SameBut.refl.upd hl0).none (hb.upd hl0) hl
  have hf0:H f=none:=((SameBut.refl.upd hl0).upd hl).none ((hb.upd hl0).upd hl) hf
  have hll:(upd (upd (upd H l0 (.lst (ls0.map V.str))) l (.lst (ls0.map V.str))) f (.lst [])) l=some (.lst (ls0.map V.str)):=by rw[aF hlf];exact aG
  have hff:(upd (upd (upd H l0 (.lst (ls0.map V.str))) l (.lst (ls0.map V.str))) f (.lst [])) f=some (.lst []):=aG
  generalize upd (upd (upd H l0 (.lst (ls0.map V.str))) l (.lst (ls0.map V.str))) f (.lst [])=H1 at hb1 hs1 hll hff ⊢
  refine lY ⟨p,6,rfl,hb1,by decide,by decide,fun d2 H3 d20 d21 hb3 hs3=>?_⟩
  try walk_at "sx"
  refine⟨_,rfl,by omega,by omega,?_⟩
  refine aI1 (P:=fun _=>True) kO (fun i σ H2=>∃ (es:List V) (ls:List Str) (o4 o5 o6 o7:Option V),σ=[some (V.ref p),some (V.ref q),some (V.ref l),some (V.ref f),o4,o5,o6,o7]/\H2 f=some (.lst es)/\es.length=i/\hU H2 es /\
    (∀ e,es[0]? = some e->∃ (c:Addr) (z:Str) (cs:List Str),e=.ref c/\H2 c=some (.tup ((z::cs).map V.str))/\Shz z)/\H2 l=some (.lst (ls.map V.str))/\gS ls/\ls.length<=6/\bS H2 p/\SameBut p H H2)
   ⟨[],ls0,none,none,none,none,rfl,hs3 f _ hfp hff,rfl,(fun e he=>nomatch he),(fun e he=>by simp at he),hs3 l _ hlp hll,lsh,llen,hb3,hs1.trans hs3⟩ (fun _ _ _ _=>trivial) ?_ ?_
  ·rintro i x σ H2 hx ⟨es,ls,o4,o5,o6,o7,rfl,hfe,hel,hse,hfst,hle,hlsh,hll6,hb4,hs4⟩
   obtain⟨hi,rfl⟩:=kN hx
   have hi6:i < 6:=by omega
   try walk_at "sy"
   rw[qZ]
   try walk_at "sy"
   refine⟨Nat.zero_le _,fun w0 hw0=>?_⟩
   try walk_at "sy"
   -- what an own list is: at w,texts ws
   refine jV (fun σ' H'=>∃ (w:Addr) (ws:List Str) (o6':Option V),σ'=[some (V.ref p),some (V.ref q),some (V.ref l),some (V.ref f),some (V.int (0+(i:Int))),some (V.ref w),o6',o7]/\H w=none/\w≠l/\w≠f/\H' w=some (.lst (ws.map V.str))/\ws.length<=3/\gS ws /\
    H' f=some (.lst es)/\hU H' es/\(∀ e,es[0]? = some e->∃ (c:Addr) (z:Str) (cs:List Str),e=.ref c/\H' c=some (.tup ((z::cs).map V.str))/\Shz z)/\H' l=some (.lst (ls.map V.str))/\bS H' p/\SameBut p H H') ?_ ?_
   ·rintro σ' H5 ⟨w,ws,o6',rfl,hwn,hwl,hwf,hww,hwlen,hwsh,hfe5,hse5,hfst5,hle5,hb5,hs5⟩
    have hwp:w≠p:=by intro z;subst z;obtain⟨i',j',e'⟩:=hb;rw[hwn]at e';cases e'
    -- the row of the inner loop
    refine jV (fun σ' H'=>∃ (ws' ls':List Str) (o7':Option V),σ'=[some (V.ref p),some (V.ref q),some (V.ref l),some (V.ref f),some (V.int (0+(i:Int))),some (V.ref w),o6',o7']/\H' w=some (.lst (ws'.map V.str))/\ws'.length<=4/\gS ws' /\
     H' f=some (.lst es)/\hU H' es/\(∀ e,es[0]? = some e->∃ (c:Addr) (z:Str) (cs:List Str),e=.ref c/\H' c=some (.tup ((z::cs).map V.str))/\Shz z)/\H' l=some (.lst (ls'.map V.str))/\gS ls'/\ls'.length<=6/\bS H' p/\SameBut p H H') ?_ ?_
    ·rintro σ' H6 ⟨ws',ls',o7',rfl,hww6,hwlen6,hwsh6,hfe6,hse6,hfst6,hle6,hlsh6,hll6',hb6,hs6⟩
     -- none at all
     refine jV (fun σ' H'=>∃ (w':Addr) (ws'':List Str),σ'=[some (V.ref p),some (V.ref q),some (V.ref l),some (V.ref f),some (V.int (0+(i:Int))),some (V.ref w'),o6',o7']/\H' w'=some (.lst (ws''.map V.str))/\1<=ws''.length/\ws''.length<=4/\gS ws'' /\
      H' f=some (.lst es)/\hU H' es/\(∀ e,es[0]? = some e->∃ (c:Addr) (z:Str) (cs:List Str),e=.ref c/\H' c=some (.tup ((z::cs).map V.str))/\Shz z)/\H' l=some (.lst (ls'.map V.str))/\w'≠l/\bS H' p/\SameBut p H H') ?_ ?_
     ·rintro σ' H7 ⟨w',ws'',rfl,hww7,hw1,hwlen7,hwsh7,hfe7,hse7,hfst7,hle7,hwl7,hb7,hs7⟩
      have hq7:H7 q=some (.lst (zs.map V.str)):=hs7 q _ hqp hq
      -- the first name taken out
      refine jV (fun σ' H'=>∃ (ls'':List Str),σ'=[some (V.ref p),some (V.ref q),some (V.ref l),some (V.ref f),some (V.int (0+(i:Int))),some (V.ref w'),o6',o7']/\H' w'=some (.lst (ws''.map V.str)) /\
       H' f=some (.lst es)/\hU H' es/\(∀ e,es[0]? = some e->∃ (c:Addr) (z:Str) (cs:List Str),e=.ref c/\H' c=some (.tup ((z::cs).map V.str))/\Shz z)/\H' l=some (.lst (ls''.map V.str))/\gS ls''/\ls''.length<=6/\bS H' p/\SameBut p H H') ?_ ?_
      ·rintro σ' H8 ⟨ls'',rfl,hww8,hfe8,hse8,hfst8,hle8,hlsh8,hll8,hb8,hs8⟩
       try walk_at "sx"
       refine⟨tyL hfe8,?_⟩
       refine lY ⟨p,w',true,_,rfl,hb8,aU hww8,by rw[List.length_map];omega,fun r ys H9 hr e9 hpm hb9 hs9=>?_⟩
       refine up (zU (aU e9)) ?_
       intro t ht
       obtain⟨cs,rfl,hcs⟩:=lN (zs:=ws'') fun y hy=>hpm.mem_iff.mp hy
       have cl:cs.length=ws''.length:=by have:=hpm.length_eq;simpa using this
       have hf9:(upd H9 t (.tup (cs.map V.str))) f=some (.lst es):=by
        have:=hs9 f _ hfp hfe8
        rw[aF (aE this ht)];exact this
       refine⟨f,es,_,rfl,rfl,hf9,Nat.lt_of_le_of_lt (by omega:es.length<=6) (by decide),?_⟩
       have tx:eD H8 (upd (upd H9 t (.tup (cs.map V.str))) f (.lst (es++[.ref t]))):=((hs9.tup hb8).trans (gT ht)).trans (iV hf9)
       refine⟨es++[.ref t],ls'',_,_,_,_,rfl,aG,by simp[hel],?_,?_,?_,hlsh8,hll8,(hb9.upd ht).put hfp,((hs8.trans hs9).upd ht).put hf0⟩
       ·intro e he
        rcases List.mem_append.mp he with h | h
        ·exact(hse8.mono tx) e h
        ·rw[List.mem_singleton.mp h]
         exact⟨t,cs,rfl,iV hf9 _ _ aG,by omega,fun c hc=>hwsh7 c (hcs c hc)⟩
       ·intro e he
        cases es with
        | nil=>
          have he':e=.ref t:=by simpa using he.symm
          cases cs with
          | nil=>rw[List.length_nil]at cl;omega
          | cons c cr=>exact⟨t,c,cr,he',iV hf9 _ _ aG,hwsh7 c (hcs c List.mem_cons_self)⟩
        | cons e1 er=>
          obtain⟨c,z,cs',f1,f2,f3⟩:=hfst8 e (by simpa using he)
          exact⟨c,z,cs',f1,tx _ _ f2,f3⟩
       ·rw[aF hlf]
        have:=hs9 l _ hlp hle8
        rw[aF (aE this ht)];exact this
      ·intro C hC
       try walk_at "sx"
       rw[jS (at0 _ hq7)]
       refine⟨true,_,aU hww7,rfl,xS _,?_⟩
       have skip:C [some (V.ref p),some (V.ref q),some (V.ref l),some (V.ref f),some (V.int (0+(i:Int))),some (V.ref w'),o6',o7'] H7:=hC _ _ ⟨ls',rfl,hww7,hfe7,hse7,hfst7,hle7,hlsh6,hll6',hb7,hs7⟩
       try walk_at "sx"
       refine tG (fun _=>?_) (fun _=>?_)
       ·rw[jS (at0 _ hq7)]
        refine⟨true,_,aU hle7,rfl,xS _,?_⟩
        try walk_at "sx"
        refine tG (fun hin=>?_) (fun _=>skip)
        refine⟨tyL hle7,?_⟩
        rw[jS (at0 _ hq7)]
        refine⟨l,ls',z0,rfl,rfl,hle7,aI8 (by simpa using hin),fun j hj=>?_⟩
        refine hC _ _ ⟨ls'.eraseIdx j,rfl,by rw[aF hwl7];exact hww7,by rw[aF hlf.symm];exact hfe7,hse7.mono (iV hle7),?_,aG,fun z hz=>hlsh6 z (List.mem_of_mem_eraseIdx hz),Nat.le_trans (mI _ _) hll6',hb7.put hlp,hs7.put hlH⟩
        intro e he
        obtain⟨c,z,cs',f1,f2,f3⟩:=hfst7 e he
        exact⟨c,z,cs',f1,iV hle7 _ _ f2,f3⟩
       ·try refine cU4 ?_
        exact skip
     ·intro C hC
      try walk_at "sx"
      rw[eC (aU hww6)]
      try walk_at "sx"
      refine tG (fun hc=>?_) (fun hc=>?_)
      ·have fin:∀ (z:Str) (H':Hp),Shz z->H'=H6->1<=sizeLine/\∀ v,H' v=none->C [some (V.ref p),some (V.ref q),some (V.ref l),some (V.ref f),some (V.int (0+(i:Int))),some (V.ref v),o6',o7'] (upd H' v (.lst [V.str z])):=fun z H' hz he=>by
        subst he
        refine⟨by decide,fun v hv=>hC _ _ ⟨v,[z],rfl,aG,Nat.le_refl _,by show 1<=4;decide,(fun y hy=>by rw[List.mem_singleton.mp hy];exact hz),?_,hse6.mono (gT hv),?_,?_,(aE hle6 hv).symm,hb6.upd hv,hs6.upd hv⟩⟩
        ·rw[aF (aE hfe6 hv)];exact hfe6
        ·intro e he
         obtain⟨c,z,cs',f1,f2,f3⟩:=hfst6 e he
         exact⟨c,z,cs',f1,gT hv _ _ f2,f3⟩
        ·rw[aF (aE hle6 hv)];exact hle6
       refine tG (fun hk=>?_) (fun hk=>?_)
       ·rw[jS (at0 _ (hs6 q _ hqp hq))]
        exact fin z0 _ hz0s rfl
       ·have hi0:0 < i:=by
         have:¬ ((0:Int)+(i:Int)=0):=by simpa using hk
         omega
        obtain⟨e0,er,hes⟩:∃ e0 er,es=e0::er:=by
         cases es with
         | nil=>rw[List.length_nil]at hel;omega
         | cons e r=>exact⟨e,r,rfl⟩
        obtain⟨c,z,cs',f1,f2,f3⟩:=hfst6 e0 (by rw[hes];rfl)
        rw[jS (eJ (aU hfe6) (show atI es 0=some e0 by rw[hes];exact dC7))]
        rw[f1,jS (eJ (cJ f2) (show atI ((z::cs').map V.str) 0=some (V.str z)from dC7))]
        exact fin z _ f3 rfl
      ·have hne:1<=ws'.length:=by
        have:¬ ((ws'.length:Int)=0):=by simpa using hc
        omega
       exact hC _ _ ⟨w,ws',rfl,hww6,hne,hwlen6,hwsh6,hfe6,hse6,hfst6,hle6,hwl,hb6,hs6⟩
    ·intro C hC
     try walk_at "sx"
     rw[eC (aU hww)]
     try walk_at "sx"
     refine lY ⟨p,_,rfl,hb5,by rw[List.length_map];omega,by omega,fun d6 H6 d60 d61 hb6 hs6=>?_⟩
     rw[List.length_map]at d61
     refine⟨_,rfl,by omega,by omega,?_⟩
     have tx6:eD H5 H6:=hs6.tup hb5
     refine aI1 (P:=fun _=>True) kO (fun j σ H7=>∃ (ws' ls':List Str) (o7':Option V),σ=[some (V.ref p),some (V.ref q),some (V.ref l),some (V.ref f),some (V.int (0+(i:Int))),some (V.ref w),o6',o7']/\H7 w=some (.lst (ws'.map V.str))/\ws'.length<=ws.length+j/\gS ws' /\
       H7 f=some (.lst es)/\eD H6 H7/\H7 l=some (.lst (ls'.map V.str))/\gS ls'/\ls'.length<=6/\bS H7 p/\SameBut p H H7)
      ⟨ws,ls,_,rfl,hs6 w _ hwp hww,Nat.le_refl _,hwsh,hs6 f _ hfp hfe5,eD.refl _,hs6 l _ hlp hle5,hlsh,hll6,hb6,hs5.trans hs6⟩ (fun _ _ _ _=>trivial) ?_ ?_
     ·rintro j y σ H7 hy ⟨ws',ls',o7',rfl,g1,g2,g3,g4,g5,g6,g7,g8,g9,g10⟩
      have hj:=(kN hy).1
      try walk_at "sx"
      rw[eC (aU g6)]
      try walk_at "sx"
      refine tG (fun hc=>?_) (fun hc=>?_)
      ·have hpos:0 < ls'.length:=by
        have:0 < ((ls'.map V.str).length:Int):=by simpa using hc
        rw[List.length_map]at this
        omega
       refine⟨tyL g1,tyL g6,?_⟩
       have hlast:ls'[ls'.length-1]? = some ls'[ls'.length-1]:=List.getElem?_eq_getElem (by omega)
       refine⟨l,_,V.str ls'[ls'.length-1],rfl,rfl,g6,by rw[List.length_map,List.getElem?_map,hlast];rfl,?_⟩
       have g1':(upd H7 l (.lst (ls'.map V.str).dropLast)) w=some (.lst (ws'.map V.str)):=by rw[aF hwl];exact g1
       refine⟨w,_,_,rfl,rfl,g1',by rw[List.length_map];exact Nat.lt_of_le_of_lt (by omega:ws'.length<=10) (by decide),?_⟩
       refine⟨ws'++[ls'[ls'.length-1]],ls'.dropLast,_,rfl,by rw[aG];simp,by simp;omega,?_,?_,?_,?_,?_,?_,?_,?_⟩
       ·intro z hz
        rcases List.mem_append.mp hz with h | h
        ·exact g3 z h
        ·rw[List.mem_singleton.mp h];exact g7 _ (List.getElem_mem _)
       ·rw[aF hwf.symm,aF hlf.symm];exact g4
       ·exact(g5.trans (iV g6)).trans (iV g1')
       ·rw[aF hwl.symm,aG,List.map_dropLast]
       ·exact fun z hz=>g7 z (List.dropLast_subset _ hz)
       ·rw[List.length_dropLast];omega
       ·exact(g9.put hlp).put hwp
       ·exact(g10.put hlH).put hwn
      ·exact⟨ws',ls',_,rfl,g1,by omega,g3,g4,g5,g6,g7,g8,g9,g10⟩
     ·rintro σ H7 ⟨ws',ls',o7',rfl,g1,g2,g3,g4,g5,g6,g7,g8,g9,g10⟩
      rw[eS]at g2
      try walk_at "sx"
      refine hC _ _ ⟨ws',ls',_,rfl,g1,by omega,g3,g4,hse5.mono (tx6.trans g5),?_,g6,g7,g8,g9,g10⟩
      intro e he
      obtain⟨c,z,cs',f1,f2,f3⟩:=hfst5 e he
      exact⟨c,z,cs',f1,(tx6.trans g5) _ _ f2,f3⟩
   ·intro C hC
    have hw0n:H w0=none:=hs4.none hb4 hw0
    have hfe':(upd H2 w0 (.lst [])) f=some (.lst es):=by rw[aF (aE hfe hw0)];exact hfe
    have hle':(upd H2 w0 (.lst [])) l=some (.lst (ls.map V.str)):=by rw[aF (aE hle hw0)];exact hle
    try walk_at "sx"
    refine tG (fun hc=>?_) (fun hc=>?_)
    ·have hi0:0 < i:=by
      have:(0:Int) < 0+(i:Int):=by simpa using hc
      omega
     refine lY ⟨p,_,rfl,hb4.upd hw0,by omega,by omega,fun d5 H5 d50 d51 hb5 hs5=>?_⟩
     obtain⟨e1,he1⟩:=oS (ys:=es) d50 (by omega)
     rw[jS (eJ (aU (hs5 f _ hfp hfe')) he1)]
     obtain⟨c,cs,rfl,hcc,hcl,hcsh⟩:=hse e1 (jT he1)
     have hc5:H5 c=some (.tup (cs.map V.str)):=(hs5.tup (hb4.upd hw0)) _ _ (gT hw0 _ _ hcc)
     try walk_at "sx"
     rw[eC (cJ hc5)]
     try walk_at "sx"
     refine lY ⟨p,_,rfl,hb5,by rw[List.length_map];omega,by rw[List.length_map];omega,fun d6 H6 d60 d61 hb6 hs6=>?_⟩
     rw[List.length_map]at d61
     refine lY ⟨p,c,false,_,_,rfl,hb6,cJ ((hs6.tup hb5) _ _ hc5),by rw[List.length_map];omega,d60,fun r ys H7 hr e7 hyl hym hb7 hs7=>?_⟩
     obtain⟨cs2,rfl,hcs2⟩:=lN hym
     refine up (qB (cJ e7)) ?_
     intro w hw
     have hs67:SameBut p (upd H2 w0 (.lst [])) H7:=(hs5.trans hs6).trans hs7
     have hs07:SameBut p H H7:=(hs4.upd hw0).trans hs67
     have hwn:H w=none:=hs07.none hb7 hw
     have hf7:=hs67 f _ hfp hfe'
     have hl7:=hs67 l _ hlp hle'
     have tx:eD H2 (upd H7 w (.lst (cs2.map V.str))):=((gT hw0).trans (hs67.tup (hb4.upd hw0))).trans (gT hw)
     refine hC _ _ ⟨w,cs2,_,rfl,hwn,(aE hl7 hw).symm,(aE hf7 hw).symm,aG,?_,fun z hz=>hcsh z (hcs2 z hz),by rw[aF (aE hf7 hw)];exact hf7,hse.mono tx,?_,by rw[aF (aE hl7 hw)];exact hl7,hb7.upd hw,hs07.upd hw⟩
     ·rw[List.length_map,List.length_map]at hyl
      omega
     ·intro e he
      obtain⟨c',z,cs',f1,f2,f3⟩:=hfst e he
      exact⟨c',z,cs',f1,tx _ _ f2,f3⟩
    ·refine hC _ _ ⟨w0,[],_,rfl,hw0n,(aE hle hw0).symm,(aE hfe hw0).symm,aG,Nat.zero_le _,(fun z hz=>nomatch hz),hfe',hse.mono (gT hw0),?_,hle',hb4.upd hw0,hs4.upd hw0⟩
     intro e he
     obtain⟨c',z,cs',f1,f2,f3⟩:=hfst e he
     exact⟨c',z,cs',f1,gT hw0 _ _ f2,f3⟩
  ·rintro σ H2 ⟨es,ls,o4,o5,o6,o7,rfl,hfe,hel,hse,hfst,hle,hlsh,hll6,hb4,hs4⟩
   rw[eS]at hel
   try walk_at "sx"
   exact k f es H2 hf0 hfe (by omega) (by omega) hse hb4 hs4
theorem lW(T:Txt K mg a)(G_law_take:FnOk P w K mg base CX0 1 a.law_take a.fd_law_take ["_law_box_here","_law_many"] (eU K))(G_law_some_columns:FnOk P w K mg base CX0 3 a.law_some_columns a.fd_law_some_columns ["_law_box_here","_law_names_here","_law_many"] (cV K))(G_law_order:FnOk P w K mg base CX0 2 a.law_order a.fd_law_order ["_law_box_here","_law_things"] (fA K)):FnOk P w K mg base CX0 4 a.law_ring_tables a.fd_law_ring_tables ["_law_box_here","_law_names_here"] (gL K):=by
 refine T.F_law_ring_tables.ok gP (fun vs H Q E h=>?_) (fun cdv A outer s H vs Q E hr h=>?_)
 ·obtain⟨p,q,zs,rfl,_⟩:=h
  rfl
 ·obtain⟨p,q,zs,rfl,hb,hq,hl6,hsh,k⟩:=h
  have nd:=gP.nd
  refine⟨_,(aW (cS (i:=2) nd rfl (Or.inr rfl) (fP gZ aV (aK G_law_take (hr.mono (by decide)) rfl T.m_law_take T.F_law_take.kp (aL T) .nil bE (aD (pv 0) (aD aV aN)))))
   (aW (cS (i:=3) nd rfl (Or.inr rfl) (kL cB3 (pv 1) nY (nZ (pv 2))))
   (aW (kM (i:=4) nd rfl rfl (csc [7] (by kernel_rfl)) (eW rfl T.n_range (aD (pv 2) aN)) (fun _ _ _ _=>(bG (i:=7) nd rfl (Or.inl rfl) (.inr rfl))) (cI (by decide)) (fun _ _ _ _=>pV) (fun _ _ _ _=>(oO (aD (jJ xD (pv 3) (pv 7) (fun _ _=>rfl)) (aD (jJ xD (pv 3) (fP fV (fP gZ (pv 7) aV) (pv 2)) (fun _ _=>rfl)) aN)))) rfl)
   (aW (nX (PW.pt (tD (cN aS4 (pv 2) aV (bC _)) (qR (cN (mR hr.units) (aK G_law_take (hr.mono (by decide)) rfl T.m_law_take T.F_law_take.kp (aL T) .nil bE (aD (pv 0) (aD aV aN))) aV (bC _))))) (bH (kM (i:=4) nd rfl rfl (csc [5] (by kernel_rfl)) (rB K rfl (pv 3)) (fun _ _ _ _=>(bG (i:=5) nd rfl (Or.inr rfl) (.inl rfl))) (cI (by decide)) (fun _ _ _ _=>pV) (fun _ _ _ _=>(iQ (csc [8] (by kernel_rfl)) (rB K rfl (pv 3)) (fun _ _ _ _=>(bG (i:=8) nd rfl (Or.inl rfl) (.inr rfl))) (cI (by decide)) (fun _ _ _ _=>(aH0 (cN (cV2 hr.units) (pv 8) (pv 5) (bC _)))) (fun _ _ _ _=>(pv 8)))) rfl)) fU)
   (aW (nX (PW.pt (tD (cN aS4 (pv 2) aV (bC _)) (qR (cN (mR hr.units) (aK G_law_take (hr.mono (by decide)) rfl T.m_law_take T.F_law_take.kp (aL T) .nil bE (aD (pv 0) (aD aV aN))) aV (bC _))))) (aW (cS (i:=5) nd rfl (Or.inl rfl) (jJ xD (pv 4) (aK G_law_take (hr.mono (by decide)) rfl T.m_law_take T.F_law_take.kp (aL T) .nil bE (aD (pv 0) (aD (pv 2) aN))) (fun _ _=>rfl)))
   (bH (fM (hX K rfl PySem.F.plainAttrs_list PySem.F.slot_list_append PySem.F.type_list_append fW (pv 4) (aD (dD kP (by rfl) T.n_list (nI) (aD (aK G_law_some_columns (hr.mono (by decide)) rfl T.m_law_some_columns T.F_law_some_columns.kp (eM T) .nil bE (aD (pv 0) (aD (pv 5) (aD (fP gZ aV (aK G_law_take (hr.mono (by decide)) rfl T.m_law_take T.F_law_take.kp (aL T) .nil bE (aD (pv 0) (aD aV aN)))) aN)))) aN)) aN))))) fU)
   (aW (nX (PW.pt (tD (cN aS4 (pv 2) aV (bC _)) (tD (cN aS4 (aO aR (by rfl) T.n_len (aX) (aD (jJ xD (pv 4) aV (fun _ _=>rfl)) aN)) aV (bC _)) (qR (cN (mR hr.units) (aK G_law_take (hr.mono (by decide)) rfl T.m_law_take T.F_law_take.kp (aL T) .nil bE (aD (pv 0) (aD aV aN))) aV (bC _)))))) (bH (jO PassesOwn.never rfl (rB K rfl (kL cB3 (pv 4) nY (nZ (fP gZ aV (aK G_law_take (hr.mono (by decide)) rfl T.m_law_take T.F_law_take.kp (aL T) .nil bE (aD (pv 0) (aD aV aN))))))) (bG (i:=6) nd rfl (Or.inl rfl))
   (bH (fM (hX K rfl PySem.F.plainAttrs_list PySem.F.slot_list_append PySem.F.type_list_append fW (pv 6) (aD (jJ xD (pv 1) (pv 2) (fun _ _=>rfl)) aN)))))) fU)
   (bH (mF (iQ (csc [6] (by kernel_rfl)) (rB K rfl (aK G_law_order (hr.mono (by decide)) rfl T.m_law_order T.F_law_order.kp (gG T) .nil bE (aD (pv 0) (aD (pv 4) aN)))) (fun _ _ _ _=>(bG (i:=6) nd rfl (Or.inl rfl) (.inr rfl))) (cI (by decide)) (fun _ _ _ _=>pV) (fun _ _ _ _=>(dD mP (by rfl) T.n_tuple (iH) (aD (aK G_law_order (hr.mono (by decide)) rfl T.m_law_order T.F_law_order.kp (gG T) .nil bE (aD (pv 0) (aD (pv 6) aN))) aN)))))))))))),?_⟩
  rw[show dJ ["_law_box_here","_law_names_here","_law_many","_law_ring","_law_sets","_law_one","_law_own","_law_k","_law_column"] [.ref p,.ref q]=([some (.ref p),some (.ref q),none,none,none,none,none,none,none]:St)from rfl]
  have hqp:q≠p:=by obtain⟨i,j,e⟩:=hb;intro z;subst z;rw[hq]at e;exact absurd (congrArg (fun o=>match o with | some (HO.lst l)=>l.length | _=>0) e) (by simp[hl6])
  try walk_at "sy"
  rw[qZ]
  try walk_at "sy"
  refine lY ⟨p,4,rfl,hb,by decide,by decide,fun d1 H1 d10 d11 hb1 hs1=>?_⟩
  try walk_at "sy"
  rw[qZ]
  try walk_at "sy"
  refine xV (aU (hs1 q _ hqp hq)) fun g hg=>?_
  have eg:pU (zs.map V.str) none (some (3+d1))=(zs.take (3+d1).toNat).map V.str:=by rw[iT (by omega),List.map_take]
  have glen:(zs.take (3+d1).toNat).length=(3+d1).toNat:=by rw[List.length_take,hl6];omega
  have gsh:gS (zs.take (3+d1).toNat):=fun z hz=>hsh z (List.mem_of_mem_take hz)
  rw[eg]
  generalize zs.take (3+d1).toNat=rg at glen gsh ⊢
  have hgp:g≠p:=hb1.ne hg
  have hgq:g≠q:=(aE (hs1 q _ hqp hq) hg).symm
  have hg0:H g=none:=hs1.none hb1 hg
  have hb2:bS (upd H1 g (.lst (rg.map V.str))) p:=hb1.upd hg
  have hs2:SameBut p H (upd H1 g (.lst (rg.map V.str))):=hs1.upd hg
  have hgg:(upd H1 g (.lst (rg.map V.str))) g=some (.lst (rg.map V.str)):=aG
  generalize upd H1 g (.lst (rg.map V.str))=H2 at hb2 hs2 hgg ⊢
  clear hb1 hs1 hg eg
  have m0:3<=3+d1:=by omega
  have m6:3+d1<=6:=by omega
  generalize hmm:(3+d1:Int)=m at glen m0 m6 ⊢
  clear hmm d10 d11 d1
  -- lists of own: each new,none the ring
  have mono:∀ {H' H'':Hp} {es:List V} {n:Nat},cO H g H' n es->(∀ w,H w=none->w≠g->∀ o,H' w=some o->H'' w=some o)->cO H g H'' n es:=fun ho hk e he=>by
   obtain⟨w,ws,e1,e2,e3,e4,e5,e6⟩:=ho e he
   exact⟨w,ws,e1,hk w e5 e6 _ e2,e3,e4,e5,e6⟩
  have bxne:∀ {w:Addr},H w=none->w≠p:=fun hw z=>by subst z;obtain⟨i',j',e'⟩:=hb;rw[hw]at e';cases e'
  have byBut:∀ {H' H'':Hp} {es:List V} {n:Nat},cO H g H' n es->SameBut p H' H''->cO H g H'' n es:=fun ho hs=>mono ho fun w hw _ o e=>hs w o (bxne hw) e
  have byNew:∀ {H':Hp} {es:List V} {n:Nat} {l:Addr} {o:HO},cO H g H' n es->H' l=none->cO H g (upd H' l o) n es:=fun ho hl=>mono ho fun w _ _ o e=>by rw[aF (aE e hl)];exact e
  refine jV (fun σ' H'=>∃ (s:Addr) (es:List V),σ'=[some (V.ref p),some (V.ref q),some (V.int m),some (V.ref g),some (V.ref s),none,none,none,none]/\H s=none/\s≠g/\H' s=some (.lst es)/\es.length=m.toNat/\cO H g H' 6 es/\H' g=some (.lst (rg.map V.str))/\bS H' p/\SameBut p H H') ?_ ?_
  ·rintro σ' H3 ⟨s,es,rfl,hs0,hsg,hse,hel,hol,hg3,hb3,hs3⟩
   refine jV (fun σ' H'=>∃ (s:Addr) (es:List V),σ'=[some (V.ref p),some (V.ref q),some (V.int m),some (V.ref g),some (V.ref s),none,none,none,none]/\H s=none/\s≠g/\H' s=some (.lst es)/\es.length=m.toNat/\cO H g H' 6 es/\H' g=some (.lst (rg.map V.str))/\bS H' p/\SameBut p H H') ?_ ?_
   ·clear hs0 hsg hse hel hol hg3 hb3 hs3
    rintro σ' H4 ⟨s,es,rfl,hs0,hsg,hse,hel,hol,hg4,hb4,hs4⟩
    refine jV (fun σ' H'=>∃ (es:List V) (o5:Option V),σ'=[some (V.ref p),some (V.ref q),some (V.int m),some (V.ref g),some (V.ref s),o5,none,none,none]/\H' s=some (.lst es)/\1<=es.length/\es.length<=6/\cO H g H' 6 es/\H' g=some (.lst (rg.map V.str))/\bS H' p/\SameBut p H H') ?_ ?_
    ·clear hse hel hol hg4 hb4 hs4
     rintro σ' H5 ⟨es,o5,rfl,hse,hel1,hel6,hol,hg5,hb5,hs5⟩
     refine jV (fun σ' H'=>∃ (o6:Option V),σ'=[some (V.ref p),some (V.ref q),some (V.int m),some (V.ref g),some (V.ref s),o5,o6,none,none]/\H' s=some (.lst es)/\cO H g H' 10 es/\bS H' p/\SameBut p H H') ?_ ?_
     ·rintro σ' H6 ⟨o6,rfl,hse6,hol6,hb6,hs6⟩
      try walk_at "sx"
      refine lY ⟨p,s,true,es,rfl,hb6,aU hse6,by omega,fun r ys H7 hr e7 hpm hb7 hs7=>?_⟩
      have hol7:cO H g H7 10 ys:=fun e he=>(byBut hol6 hs7) e (hpm.mem_iff.mp he)
      refine up (pZ (aU e7)) ?_
      have hrp:r≠p:=hb6.ne hr
      refine vA (jR (xs:=ys)) (fun i zs' H'=>zs'.length=i/\hU H' zs'/\H' r=some (.lst ys)/\cO H g H' 10 ys/\bS H' p/\SameBut p H H') ⟨rfl,(fun e he=>nomatch he),e7,hol7,hb7,hs6.trans hs7⟩ ?_ (by have:=hpm.length_eq;exact Nat.le_trans (by omega:ys.length<=6) (by decide)) ?_ ?_
      ·rintro i zs' H' ⟨h1,_,h3,_⟩
       exact⟨SqL.of h3,by omega⟩
      ·rintro i x zs' H' N hx ⟨h1,h2,h3,h4,h5,h6⟩ hN
       have hxm:x∈ys:=List.mem_of_getElem? hx
       obtain⟨w,ws,rfl,ww,wl,wsh,wn,wg⟩:=h4 x hxm
       try walk_at "sx"
       refine lY ⟨p,w,true,_,rfl,h5,aU ww,by rw[List.length_map];omega,fun r2 ys2 H8 hr2 e8 hpm2 hb8 hs8=>?_⟩
       refine up (zU (aU e8)) ?_
       intro t ht
       obtain⟨cs,rfl,hcs⟩:=lN (zs:=ws) fun y hy=>hpm2.mem_iff.mp hy
       have cl:cs.length=ws.length:=by have:=hpm2.length_eq;simpa using this
       refine hN _ _ ⟨by simp[h1],?_,?_,byNew (byBut h4 hs8) ht,hb8.upd ht,(h6.trans hs8).upd ht⟩
       ·intro e he
        rcases List.mem_append.mp he with h | h
        ·exact(h2.mono ((hs8.tup h5).trans (gT ht))) e h
        ·rw[List.mem_singleton.mp h]
         exact⟨t,cs,rfl,aG,by omega,fun c hc=>wsh c (hcs c hc)⟩
       ·have:=hs8 r _ hrp h3
        rw[aF (aE this ht)];exact this
      ·rintro zs' H' ⟨h1,h2,h3,h4,h5,h6⟩ l hl
       have:=hpm.length_eq
       exact k l zs' _ (h6.none h5 hl) aG (by omega) (by omega) (h2.mono (gT hl)) (h5.upd hl) (h6.upd hl)
     ·intro C hC
      have skip:∀ H',H'=H5->C [some (V.ref p),some (V.ref q),some (V.int m),some (V.ref g),some (V.ref s),o5,none,none,none] H':=fun H' e=>by
       subst e
       exact hC _ _ ⟨none,rfl,hse,(fun e he=>by obtain⟨w,ws,e1,e2,e3,e4⟩:=hol e he;exact⟨w,ws,e1,e2,by omega,e4⟩),hb5,hs5⟩
      try walk_at "sx"
      refine tG (fun hm=>?_) (fun _=>?_)
      ·obtain⟨e0,er,hes⟩:∃ e0 er,es=e0::er:=by
        cases es with
        | nil=>rw[List.length_nil]at hel1;omega
        | cons e r=>exact⟨e,r,rfl⟩
       obtain⟨w0,ws0,f1,f2,f3,f4,f5,f6⟩:=hol e0 (by rw[hes];exact List.mem_cons_self)
       refine up (jS (eJ (aU hse) (show atI es 0=some e0 by rw[hes];exact dC7))) ?_
       rw[f1,eC (aU f2)]
       try walk_at "sx"
       refine tG (fun _=>?_) (fun _=>?_)
       ·refine lY ⟨p,2,rfl,hb5,by decide,by decide,fun d6 H6 d60 d61 hb6 hs6=>?_⟩
        try walk_at "sx"
        have hol6:=byBut hol hs6
        have hse6:=hs6 s _ (bxne hs0) hse
        refine tG (fun _=>?_) (fun _=>?_)
        ·refine lY ⟨p,2,rfl,hb6,by decide,by decide,fun d7 H7 d70 d71 hb7 hs7=>?_⟩
         try walk_at "sx"
         have hol7:=byBut hol6 hs7
         have hse7:=hs7 s _ (bxne hs0) hse6
         refine xV (aU hse7) fun c hc=>?_
         have hcl:(pU es none (some (1+d7))).length<=2:=by rw[iT (by omega),List.length_take];omega
         have hcm:∀ e∈pU es none (some (1+d7)),e∈es:=fun e he=>by rw[iT (by omega)]at he;exact List.mem_of_mem_take he
         refine up (pZ (aU aG)) ?_
         generalize pU es none (some (1+d7))=xs at hcl hcm ⊢
         have hs57:SameBut p H H7:=(hs5.trans hs6).trans hs7
         have hcn:H c=none:=hs57.none hb7 hc
         have hcs:c≠s:=(aE hse7 hc).symm
         have her:∀ e∈es,∃ w,e=V.ref w:=fun e he=>by obtain⟨w,_,e1,_⟩:=hol e he;exact⟨w,e1⟩
         have hm6:m < 6:=by simpa using hm
         obtain⟨z7,hz7⟩:=oS (ys:=zs) (i:=m) (by omega) (by omega)
         have hz7s:=hsh z7 (jT hz7)
         have hol7':cO H g (upd H7 c (.lst xs)) 6 es:=byNew hol7 hc
         refine aI1 (jR (xs:=xs)) (fun i σ H'=>∃ (o6:Option V),σ=[some (V.ref p),some (V.ref q),some (V.int m),some (V.ref g),some (V.ref s),o5,o6,none,none]/\H' s=some (.lst es)/\H' c=some (.lst xs)/\cO H g H' (6+i) es/\bS H' p/\SameBut p H H')
          ⟨none,rfl,by rw[aF hcs.symm];exact hse7,aG,hol7',hb7.upd hc,hs57.upd hc⟩ ?_ ?_ ?_
         ·rintro i σ H' ⟨o6,_,_,h3,_⟩
          exact SqL.of h3
         ·rintro i x σ H' hx ⟨o6,rfl,h2,h3,h4,h5,h6⟩
          have hxm:x∈xs:=List.mem_of_getElem? hx
          obtain⟨w,ws,rfl,ww,wl,wsh,wn,wg⟩:=h4 x (hcm x hxm)
          have hws:w≠s:=zV ww h2 (hcm _ hxm)
          have hwc:w≠c:=zV ww h3 hxm
          try walk_at "sx"
          refine⟨tyL ww,?_⟩
          refine up (jS (eJ (aU (h6 q _ hqp hq)) (show atI (zs.map V.str) m=some (V.str z7) by rw[oB,hz7];rfl))) ?_
          refine⟨w,_,_,rfl,rfl,ww,by rw[List.length_map];exact Nat.lt_of_le_of_lt (by have:=(List.getElem?_eq_some_iff.mp hx).1;omega:ws.length<=10) (by decide),?_⟩
          refine⟨_,rfl,by rw[aF hws.symm];exact h2,by rw[aF hwc.symm];exact h3,?_,h5.put (bxne wn),h6.put wn⟩
          intro e he
          obtain⟨w',ws',e1,e2,e3,e4,e5,e6⟩:=h4 e he
          by_cases hww:w'=w
          ·subst hww
           rw[ww]at e2
           refine⟨w',ws++[z7],e1,by rw[aG];simp,by simp;omega,?_,e5,e6⟩
           intro z hz
           rcases List.mem_append.mp hz with h | h
           ·exact wsh z h
           ·rw[List.mem_singleton.mp h];exact hz7s
          ·exact⟨w',ws',e1,by rw[aF hww];exact e2,by omega,e4,e5,e6⟩
         ·rintro σ H' ⟨o6,rfl,h2,h3,h4,h5,h6⟩
          exact hC _ _ ⟨o6,rfl,h2,(fun e he=>by obtain⟨w,ws,e1,e2,e3,e4⟩:=h4 e he;exact⟨w,ws,e1,e2,by omega,e4⟩),h5,h6⟩
        ·exact hC _ _ ⟨none,rfl,hse6,(fun e he=>by obtain⟨w,ws,e1,e2,e3,e4⟩:=hol6 e he;exact⟨w,ws,e1,e2,by omega,e4⟩),hb6,hs5.trans hs6⟩
       ·try refine cU4 ?_
        exact skip _ rfl
      ·try refine cU4 ?_
       exact skip _ rfl
    ·intro C hC
     have skip:∀ H',bS H' p->SameBut p H4 H'->C [some (V.ref p),some (V.ref q),some (V.int m),some (V.ref g),some (V.ref s),none,none,none,none] H':=fun H' hb' hs'=>
      hC _ _ ⟨es,none,rfl,hs' s _ (bxne hs0) hse,by omega,by omega,byBut hol hs',hs' g _ hgp hg4,hb',hs4.trans hs'⟩
     try walk_at "sx"
     refine tG (fun hm=>?_) (fun _=>?_)
     ·have hm6:m < 6:=by simpa using hm
      refine lY ⟨p,2,rfl,hb4,by decide,by decide,fun d5 H5 d50 d51 hb5 hs5=>?_⟩
      try walk_at "sx"
      refine tG (fun _=>?_) (fun _=>skip _ hb5 hs5)
      refine lY ⟨p,m,rfl,hb5,by omega,by omega,fun d6 H6 d60 d61 hb6 hs6=>?_⟩
      have hs56:=hs5.trans hs6
      obtain⟨e1,he1⟩:=oS (ys:=es) d60 (by omega)
      refine up (jS (eJ (aU (hs56 s _ (bxne hs0) hse)) he1)) ?_
      obtain⟨w,ws,rfl,ww,wl,wsh,wn,wg⟩:=(byBut hol hs56) e1 (jT he1)
      try walk_at "sx"
      refine⟨tyL (hs56 s _ (bxne hs0) hse),?_⟩
      refine lY ⟨p,2,rfl,hb6,by decide,by decide,fun d7 H7 d70 d71 hb7 hs7=>?_⟩
      have hs57:=hs56.trans hs7
      try walk_at "sx"
      refine lY ⟨p,w,true,_,_,rfl,hb7,aU (hs7 w _ (bxne wn) ww),by rw[List.length_map];omega,by omega,fun r ys H8 hr e8 hyl hym hb8 hs8=>?_⟩
      obtain⟨cs,rfl,hcs⟩:=lN hym
      refine up (qB (cJ e8)) ?_
      intro v hv
      have hs58:=hs57.trans hs8
      have hv0:H v=none:=(hs4.trans hs58).none hb8 hv
      have hs9:(upd H8 v (.lst (cs.map V.str))) s=some (.lst es):=by
       have:=hs58 s _ (bxne hs0) hse
       rw[aF (aE this hv)];exact this
      have hg9:H8 g=some (.lst (rg.map V.str)):=hs58 g _ hgp hg4
      have hvs:v≠s:=(aE (hs58 s _ (bxne hs0) hse) hv).symm
      refine⟨s,es,_,rfl,rfl,hs9,Nat.lt_of_le_of_lt (by omega:es.length<=6) (by decide),?_⟩
      refine hC _ _ ⟨es++[.ref v],_,rfl,aG,by simp,by simp;omega,?_,?_,(hb8.upd hv).put (bxne hs0),((hs4.trans hs58).upd hv).put hs0⟩
      ·intro e he
       rcases List.mem_append.mp he with h | h
       ·obtain⟨w',ws',f1,f2,f3,f4,f5,f6⟩:=(byNew (byBut hol hs58) hv) e h
        have hne:w'≠s:=zV f2 hs9 (by rw[← f1];exact h)
        exact⟨w',ws',f1,by rw[aF hne];exact f2,f3,f4,f5,f6⟩
       ·rw[List.mem_singleton.mp h]
        refine⟨v,cs,rfl,by rw[aF hvs];exact aG,?_,fun c hc=>wsh c (hcs c hc),hv0,(aE hg9 hv).symm⟩
        rw[List.length_map,List.length_map]at hyl
        omega
      ·rw[aF hsg.symm,aF (aE hg9 hv)];exact hg9
     ·try refine cU4 ?_
      exact skip _ hb4 SameBut.refl
   ·intro C hC
    have skip:∀ H',bS H' p->SameBut p H3 H'->C [some (V.ref p),some (V.ref q),some (V.int m),some (V.ref g),some (V.ref s),none,none,none,none] H':=fun H' hb' hs'=>
     hC _ _ ⟨s,es,rfl,hs0,hsg,hs' s _ (bxne hs0) hse,hel,byBut hol hs',hs' g _ hgp hg3,hb',hs3.trans hs'⟩
    try walk_at "sx"
    refine tG (fun hm=>?_) (fun _=>?_)
    ·have hm6:m < 6:=by simpa using hm
     refine lY ⟨p,2,rfl,hb3,by decide,by decide,fun d5 H5 d50 d51 hb5 hs5=>?_⟩
     try walk_at "sx"
     refine tG (fun _=>?_) (fun _=>skip _ hb5 hs5)
     have hg5:=hs5 g _ hgp hg3
     refine up (pZ (aU hg5)) ?_
     refine vA (jR (xs:=rg.map V.str)) (fun i ys H'=>ys.length=i/\cO H g H' 6 ys/\H' g=some (.lst (rg.map V.str))/\bS H' p/\SameBut p H H') ⟨rfl,(fun e he=>nomatch he),hg5,hb5,hs3.trans hs5⟩ ?_ (by rw[List.length_map];exact Nat.le_trans (by omega:rg.length<=6) (by decide)) ?_ ?_
     ·rintro i ys H' ⟨h1,_,h3,_⟩
      exact⟨SqL.of h3,by omega⟩
     ·rintro i x ys H' N hx ⟨h1,h2,h3,h4,h5⟩ hN
      obtain⟨o,ho,rfl⟩:∃ o,o∈rg/\V.str o=x:=by
       have:=List.mem_of_getElem? hx
       exact List.mem_map.mp this
      try walk_at "sx"
      refine up (pZ (aU h3)) ?_
      refine vA (jR (xs:=rg.map V.str)) (fun j us H''=>∃ ws:List Str,us=ws.map V.str/\ws.length<=j/\gS ws/\H''=H') ⟨[],rfl,Nat.le_refl _,(fun z hz=>nomatch hz),rfl⟩ ?_ (by rw[List.length_map];exact Nat.le_trans (by omega:rg.length<=6) (by decide)) ?_ ?_
      ·rintro j us H'' ⟨ws,rfl,h,_,rfl⟩
       exact⟨SqL.of h3,by rw[List.length_map];exact h⟩
      ·rintro j y us H'' N2 hy ⟨ws,rfl,g1,g2,rfl⟩ hN2
       obtain⟨c,hc,rfl⟩:∃ c,c∈rg/\V.str c=y:=by
        have:=List.mem_of_getElem? hy
        exact List.mem_map.mp this
       try walk_at "sx"
       refine tG (fun _=>?_) (fun _=>?_)
       ·refine hN2 _ _ ⟨ws++[c],by simp,by simp;omega,?_,rfl⟩
        intro z hz
        rcases List.mem_append.mp hz with h | h
        ·exact g2 z h
        ·rw[List.mem_singleton.mp h];exact gsh c hc
       ·exact hN2 _ _ ⟨ws,rfl,by omega,g2,rfl⟩
      ·rintro us H'' ⟨ws,rfl,g1,g2,rfl⟩ l hl
       refine hN _ _ ⟨by simp[h1],?_,?_,h4.upd hl,h5.upd hl⟩
       ·intro e he
        rcases List.mem_append.mp he with h | h
        ·exact(byNew h2 hl) e h
        ·rw[List.mem_singleton.mp h]
         rw[List.length_map]at g1
         exact⟨l,ws,rfl,aG,by omega,g2,h5.none h4 hl,(aE h3 hl).symm⟩
       ·rw[aF (aE h3 hl)];exact h3
     ·rintro ys H' ⟨h1,h2,h3,h4,h5⟩ l hl
      try walk_at "sx"
      rw[List.length_map]at h1
      exact hC _ _ ⟨l,ys,rfl,h5.none h4 hl,(aE h3 hl).symm,aG,by omega,byNew h2 hl,by rw[aF (aE h3 hl)];exact h3,h4.upd hl,h5.upd hl⟩
    ·try refine cU4 ?_
     exact skip _ hb3 SameBut.refl
  ·intro C hC
   try walk_at "sx"
   refine⟨m,rfl,by omega,by omega,?_⟩
   refine vA (P:=fun _=>True) kO (fun i ys H'=>ys.length=i/\cO H g H' 6 ys/\H' g=some (.lst (rg.map V.str))/\bS H' p/\SameBut p H H') ⟨rfl,(fun e he=>nomatch he),hgg,hb2,hs2⟩ ?_ (by rw[eS];exact Nat.le_trans (by omega:m.toNat<=6) (by decide)) ?_ ?_
   ·rintro i ys H' ⟨h1,_⟩
    exact⟨trivial,by omega⟩
   ·rintro i x ys H' N hx ⟨h1,h2,h3,h4,h5⟩ hN
    obtain⟨hi,rfl⟩:=kN hx
    try walk_at "sx"
    obtain⟨c1,hc1⟩:=oS (ys:=rg) (i:=0+(i:Int)) (by omega) (by omega)
    refine up (jS (eJ (aU h3) (show atI (rg.map V.str) (0+(i:Int))=some (V.str c1) by rw[oB,hc1];rfl))) ?_
    rw[aT9 (by omega)]
    have hmod0:0<=(0+(i:Int)+1) % m:=Int.emod_nonneg _ (by omega)
    have hmod1:(0+(i:Int)+1) % m < m:=Int.emod_lt_of_pos _ (by omega)
    obtain⟨c2,hc2⟩:=oS (ys:=rg) (i:=(0+(i:Int)+1) % m) hmod0 (by omega)
    refine up (jS (eJ (aU h3) (show atI (rg.map V.str) ((0+(i:Int)+1) % m)=some (V.str c2) by rw[oB,hc2];rfl))) ?_
    refine⟨by show 2<=sizeLine;decide,fun l hl=>?_⟩
    refine hN _ _ ⟨by simp[h1],?_,?_,h4.upd hl,h5.upd hl⟩
    ·intro e he
     rcases List.mem_append.mp he with h | h
     ·exact(byNew h2 hl) e h
     ·rw[List.mem_singleton.mp h]
      refine⟨l,[c1,c2],rfl,aG,by show 2<=6;decide,?_,h5.none h4 hl,(aE h3 hl).symm⟩
      intro z hz
      rcases List.mem_cons.mp hz with rfl | hz
      ·exact gsh _ (jT hc1)
      ·rw[List.mem_singleton.mp hz];exact gsh _ (jT hc2)
    ·rw[aF (aE h3 hl)];exact h3
   ·rintro ys H' ⟨h1,h2,h3,h4,h5⟩ l hl
    try walk_at "sx"
    rw[eS]at h1
    exact hC _ _ ⟨l,ys,rfl,h5.none h4 hl,(aE h3 hl).symm,aG,h1,byNew h2 hl,by rw[aF (aE h3 hl)];exact h3,h4.upd hl,h5.upd hl⟩
theorem pT(T:Txt K mg a)(G_law_names:FnOk P w K mg base CX0 2 a.law_names a.fd_law_names ["_law_box_here","_law_many"] (oU K))(G_law_take:FnOk P w K mg base CX0 1 a.law_take a.fd_law_take ["_law_box_here","_law_many"] (eU K))(G_law_order:FnOk P w K mg base CX0 2 a.law_order a.fd_law_order ["_law_box_here","_law_things"] (fA K))(G_law_any_tables:FnOk P w K mg base CX0 4 a.law_any_tables a.fd_law_any_tables ["_law_box_here","_law_names_here"] (hV K))(G_law_ear_tables:FnOk P w K mg base CX0 4 a.law_ear_tables a.fd_law_ear_tables ["_law_box_here","_law_names_here"] (hW K))(G_law_ring_tables:FnOk P w K mg base CX0 4 a.law_ring_tables a.fd_law_ring_tables ["_law_box_here","_law_names_here"] (gL K)):FnOk P w K mg base CX0 5 a.law_question a.fd_law_question ["_law_box_here","_law_kind"] (jU K):=by
 refine T.F_law_question.ok kI (fun vs H Q E h=>?_) (fun cdv A outer s H vs Q E hr h=>?_)
 ·obtain⟨p,kd,rfl,_⟩:=h
  rfl
 ·obtain⟨p,kd,rfl,hb,k0,k3,k⟩:=h
  have nd:=kI.nd
  refine⟨_,(aW (cS2 (i:=2) (j:=3) rfl nd rfl rfl (by decide) rfl rfl (aD (aK G_law_names (hr.mono (by decide)) rfl T.m_law_names T.F_law_names.kp (sD T) .nil bE (aD (pv 0) (aD aV aN))) (aD (aK G_law_names (hr.mono (by decide)) rfl T.m_law_names T.F_law_names.kp (sD T) .nil bE (aD (pv 0) (aD aV aN))) aN)) rfl)
   (aW (nX (cN (mR hr.units) (aK G_law_take (hr.mono (by decide)) rfl T.m_law_take T.F_law_take.kp (aL T) .nil bE (aD (pv 0) (aD aV aN))) aV (bC _)) (bH (cS (i:=3) nd rfl (Or.inl rfl) (aK G_law_order (hr.mono (by decide)) rfl T.m_law_order T.F_law_order.kp (gG T) .nil bE (aD (pv 0) (aD (pv 2) aN))))) fU)
   (aW (cS (i:=4) nd rfl (Or.inl rfl) (pv 1))
   (aW (nX (cN (mR hr.units) (pv 1) aV (bC _)) (bH (cS (i:=4) nd rfl (Or.inl rfl) (aK G_law_take (hr.mono (by decide)) rfl T.m_law_take T.F_law_take.kp (aL T) .nil bE (aD (pv 0) (aD aV aN))))) fU)
   (aW (nX (cN (mR hr.units) (pv 4) aV (bC _)) (bH (cS (i:=5) nd rfl (Or.inl rfl) (aK G_law_any_tables (hr.mono (by decide)) rfl T.m_law_any_tables T.F_law_any_tables.kp (pP T) .nil bE (aD (pv 0) (aD (pv 2) aN))))) (bH (nX (cN (mR hr.units) (pv 4) aV (bC _)) (bH (cS (i:=5) nd rfl (Or.inl rfl) (aK G_law_ear_tables (hr.mono (by decide)) rfl T.m_law_ear_tables T.F_law_ear_tables.kp (pQ T) .nil bE (aD (pv 0) (aD (pv 2) aN))))) (bH (cS (i:=5) nd rfl (Or.inl rfl) (aK G_law_ring_tables (hr.mono (by decide)) rfl T.m_law_ring_tables T.F_law_ring_tables.kp (oF T) .nil bE (aD (pv 0) (aD (pv 2) aN))))))))
   (bH (mF (cI3 (T:="tuple") (U:="zip") (bS9 rfl) (by rfl) T.n_tuple iH (by rfl) T.n_zip bW0 (aD (pv 3) (aD (pv 5) aN)))))))))),?_⟩
  rw[show dJ ["_law_box_here","_law_kind","_law_columns_here","_law_tables","_law_way","_law_sets"] [.ref p,.int kd]=([some (.ref p),some (.int kd),none,none,none,none]:St)from rfl]
  try walk_at "sy"
  rw[qZ]
  try walk_at "sy"
  refine lY ⟨p,6,rfl,hb,by decide,by decide,fun c cs H1 hc e1 l1 sh1 hb1 hs1=>?_⟩
  try walk_at "sy"
  refine lY ⟨p,6,rfl,hb1,by decide,by decide,fun t ts H2 ht e2 l2 sh2 hb2 hs2=>?_⟩
  try walk_at "sy"
  have hcp:c≠p:=hb.ne hc
  have ec3:=hs2 c _ hcp e1
  have hb3:=hb2
  have hs3:SameBut p H H2:=hs1.trans hs2
  have et3:=e2
  have htp':t≠p:=hb1.ne ht
  clear hb1 hs1 hb2 hs2 e1 e2
  try walk_at "sy"
  refine jV (fun σ' H'=>∃ (t:Addr) (ts:List Str),σ'=[some (V.ref p),some (V.int kd),some (V.ref c),some (V.ref t),none,none]/\H' t=some (.lst (ts.map V.str))/\t≠p/\ts.length=6/\gS ts/\H' c=some (.lst (cs.map V.str))/\bS H' p/\SameBut p H H') ?_ ?_
  ·clear htp' et3 hb3 hs3 ec3
   rintro σ' H4 ⟨t,ts,rfl,et,htp,l2,sh2,ec,hb4,hs4⟩
   rw[qZ]
   try walk_at "sy"
   refine jV (fun σ' H'=>∃ wy:Int,σ'=[some (V.ref p),some (V.int kd),some (V.ref c),some (V.ref t),some (V.int wy),none]/\H' t=some (.lst (ts.map V.str))/\H' c=some (.lst (cs.map V.str))/\bS H' p/\SameBut p H H') ?_ ?_
   ·clear et ec hb4 hs4
    rintro σ' H5 ⟨wy,rfl,et,ec,hb5,hs5⟩
    refine jV (fun σ' H'=>∃ (s:Addr) (es:List V),σ'=[some (V.ref p),some (V.int kd),some (V.ref c),some (V.ref t),some (V.int wy),some (V.ref s)]/\H' s=some (.lst es)/\1<=es.length/\es.length<=6/\hU H' es/\H' t=some (.lst (ts.map V.str))/\bS H' p/\SameBut p H H') ?_ ?_
    ·clear et ec hb5 hs5
     rintro σ' H6 ⟨s,es,rfl,hse,hel1,hel6,hsets,et,hb6,hs6⟩
     try walk_at "sx"
     refine⟨t,s,_,_,rfl,et,hse,fun r us H' hsame hr er ul uj=>?_⟩
     rw[List.length_map]at ul
     have hlen:(ts.take es.length).length=es.length:=by rw[List.length_take];omega
     refine k r (ts.take es.length) H' (hs6.none hb6 hr) ⟨us.map V.ref,er,by rw[List.length_map,hlen];omega,fun j z hz=>?_⟩ (by omega) (by omega) (fun z hz=>sh2 z (List.mem_of_mem_take hz)) (hb6.same hsame) (hs6.same hsame)
     have hj:j < es.length:=by have:=(List.getElem?_eq_some_iff.mp hz).1;omega
     have hu:us[j]? = some us[j]:=List.getElem?_eq_getElem (by omega)
     obtain⟨x,y,hx,hy,hh⟩:=uj j _ hu
     have hz':ts[j]? = some z:=by rw[List.getElem?_take,if_pos hj]at hz;exact hz
     rw[List.getElem?_map,hz']at hx
     cases hx
     obtain⟨cc,ccs,rfl,hcc,hccl⟩:=hsets y (List.mem_of_getElem? hy)
     exact⟨us[j],cc,ccs,by rw[List.getElem?_map,hu];rfl,hh,hsame _ _ hcc,hccl⟩
    ·intro C hC
     have fin:∀ (r:Addr) (es:List V) (H':Hp),H' r=some (.lst es)->1<=es.length->es.length<=6->hU H' es->bS H' p->SameBut p H5 H'->C [some (V.ref p),some (V.int kd),some (V.ref c),some (V.ref t),some (V.int wy),some (V.ref r)] H':=fun r es H' h1 h2 h3 h4 h5 h6=>
      hC _ _ ⟨r,es,rfl,h1,h2,h3,h4,h6 t _ htp et,h5,hs5.trans h6⟩
     try walk_at "sx"
     refine tG (fun _=>?_) (fun _=>?_)
     ·exact lY ⟨p,c,cs,rfl,hb5,ec,l1,sh1,fun r es H' _ h1 h2 h3 h4 h5 h6=>fin r es H' h1 h2 h3 h4 h5 h6⟩
     ·refine tG (fun _=>?_) (fun _=>?_)
      ·exact lY ⟨p,c,cs,rfl,hb5,ec,l1,sh1,fun r es H' _ h1 h2 h3 h4 h5 h6=>fin r es H' h1 h2 h3 h4 h5 h6⟩
      ·exact lY ⟨p,c,cs,rfl,hb5,ec,l1,sh1,fun r es H' _ h1 h2 h3 h4 h5 h6=>fin r es H' h1 h2 h3 h4 h5 h6⟩
   ·intro C hC
    try walk_at "sx"
    refine tG (fun _=>?_) (fun _=>?_)
    ·refine lY ⟨p,3,rfl,hb4,by decide,by decide,fun d H' d0 d1 hb' hs'=>?_⟩
     exact hC _ _ ⟨d,rfl,hs' t _ htp et,hs' c _ hcp ec,hb',hs4.trans hs'⟩
    ·exact hC _ _ ⟨kd,rfl,et,ec,hb4,hs4⟩
  ·intro C hC
   try walk_at "sx"
   refine lY ⟨p,4,rfl,hb3,by decide,by decide,fun d H4 d0 d1 hb4 hs4=>?_⟩
   try walk_at "sx"
   refine tG (fun _=>?_) (fun _=>?_)
   ·refine lY ⟨p,c,true,_,rfl,hb4,aU (hs4 c _ hcp ec3),by rw[List.length_map];omega,fun r ys H5 hr e5 hpm hb5 hs5=>?_⟩
    obtain⟨us,rfl,hus⟩:=lN (zs:=cs) fun y hy=>hpm.mem_iff.mp hy
    have ul:us.length=cs.length:=by have:=hpm.length_eq;simpa using this
    exact hC _ _ ⟨r,us,rfl,e5,hb4.ne hr,by omega,fun z hz=>sh1 z (hus z hz),hs5 c _ hcp (hs4 c _ hcp ec3),hb5,(hs3.trans hs4).trans hs5⟩
   ·exact hC _ _ ⟨t,ts,rfl,hs4 t _ htp' et3,htp',by omega,sh2,hs4 c _ hcp ec3,hb4,hs3.trans hs4⟩
end
open PySem L2 Dv
noncomputable def adr:Adr:=⟨82,63,44,101,24,98,Hd.cQ7,41,Hd.cQ4,79,Hd.cQ6,151,Hd.bY7,158,Hd.bY8,170,Hd.bZ0,165,Hd.bY9,177,Hd.bZ1,184,Hd.bZ2,191,Hd.bZ3,196,Hd.bZ4,203,Hd.bZ5,108,Hd.bY0,113,Hd.bY1,130,Hd.bY4,118,Hd.bY2,123,Hd.bY3,137,Hd.bY5,60,Hd.cQ5,144,Hd.bY6,234,Hd.cA0,208,Hd.bZ6,239,Hd.cA1,215,Hd.bZ7,246,Hd.cA2,222,Hd.bZ8,229,Hd.bZ9,253,Hd.aG4⟩
theorem nW{K:PySem.W.Frag}{x q:Str}{s:Stmt}{f:Addr}{fd:FuncData}(m:Value)(c:Addr)(e:fd=PySem.W.fnOf x q (zO s) (jP s) (aP s) .none .none .none m none (.ref c) .none)(l:K.lookup f=some ⟨.type "function",none,.func fd,#[]⟩)(d:PySem.W.codeIn K (.ref c) q=true)(k:PySem.W.keepIn K (.ref f)=true):Fun K x q s f fd:=⟨⟨_,_,_,_,_,_,_,_,_,e,l,d⟩,k⟩
theorem txt{P:Params}{h:Heap}{mg:Str->Option Value}(X:(Hd.KF P).In h)(G:h.Ns mainGlobals mg):Txt (Hd.KF P) mg adr:=⟨PySem.W.mg_of X G (by kernel_rfl),
by kernel_rfl,
by kernel_rfl,
by kernel_rfl,
by kernel_rfl,
by kernel_rfl,
by kernel_rfl,
PySem.W.mg_of X G (by kernel_rfl),
by kernel_rfl,
by kernel_rfl,
by kernel_rfl,
by kernel_rfl,
by kernel_rfl,
by kernel_rfl,
PySem.W.mg_of X G (by kernel_rfl),
by kernel_rfl,
by kernel_rfl,
by kernel_rfl,
by kernel_rfl,
by kernel_rfl,
by kernel_rfl,
PySem.W.mg_of X G (by kernel_rfl),
by kernel_rfl,
by kernel_rfl,
by kernel_rfl,
by kernel_rfl,
by kernel_rfl,
by kernel_rfl,
PySem.W.mg_of X G (by kernel_rfl),
by kernel_rfl,
by kernel_rfl,
by kernel_rfl,
by kernel_rfl,
by kernel_rfl,
by kernel_rfl,
by kernel_rfl,
by kernel_rfl,
by kernel_rfl,
by kernel_rfl,
by kernel_rfl,
nW (.str "mostrows.errors" 187) 97 (by kernel_rfl) (by kernel_rfl) (by kernel_rfl) (by kernel_rfl),
nW (.str "mostrows.errors" 187) 40 (by kernel_rfl) (by kernel_rfl) (by kernel_rfl) (by kernel_rfl),
nW (.str "mostrows.errors" 187) 78 (by kernel_rfl) (by kernel_rfl) (by kernel_rfl) (by kernel_rfl),
PySem.W.mg_of X G (by kernel_rfl),
nW (.str "law_mostrows_k17_questions_let_by_and_refuse" 369) 150 (by kernel_rfl) (by kernel_rfl) (by kernel_rfl) (by kernel_rfl),
PySem.W.mg_of X G (by kernel_rfl),
nW (.str "law_mostrows_k17_questions_let_by_and_refuse" 369) 157 (by kernel_rfl) (by kernel_rfl) (by kernel_rfl) (by kernel_rfl),
PySem.W.mg_of X G (by kernel_rfl),
nW (.str "law_mostrows_k17_questions_let_by_and_refuse" 369) 169 (by kernel_rfl) (by kernel_rfl) (by kernel_rfl) (by kernel_rfl),
PySem.W.mg_of X G (by kernel_rfl),
nW (.str "law_mostrows_k17_questions_let_by_and_refuse" 369) 164 (by kernel_rfl) (by kernel_rfl) (by kernel_rfl) (by kernel_rfl),
PySem.W.mg_of X G (by kernel_rfl),
nW (.str "law_mostrows_k17_questions_let_by_and_refuse" 369) 176 (by kernel_rfl) (by kernel_rfl) (by kernel_rfl) (by kernel_rfl),
PySem.W.mg_of X G (by kernel_rfl),
nW (.str "law_mostrows_k17_questions_let_by_and_refuse" 369) 183 (by kernel_rfl) (by kernel_rfl) (by kernel_rfl) (by kernel_rfl),
PySem.W.mg_of X G (by kernel_rfl),
nW (.str "law_mostrows_k17_questions_let_by_and_refuse" 369) 190 (by kernel_rfl) (by kernel_rfl) (by kernel_rfl) (by kernel_rfl),
PySem.W.mg_of X G (by kernel_rfl),
nW (.str "law_mostrows_k17_questions_let_by_and_refuse" 369) 195 (by kernel_rfl) (by kernel_rfl) (by kernel_rfl) (by kernel_rfl),
PySem.W.mg_of X G (by kernel_rfl),
nW (.str "law_mostrows_k17_questions_let_by_and_refuse" 369) 202 (by kernel_rfl) (by kernel_rfl) (by kernel_rfl) (by kernel_rfl),
PySem.W.mg_of X G (by kernel_rfl),
nW (.str "mostrows.names" 305) 107 (by kernel_rfl) (by kernel_rfl) (by kernel_rfl) (by kernel_rfl),
PySem.W.mg_of X G (by kernel_rfl),
nW (.str "mostrows.names" 305) 112 (by kernel_rfl) (by kernel_rfl) (by kernel_rfl) (by kernel_rfl),
PySem.W.mg_of X G (by kernel_rfl),
nW (.str "mostrows.questions" 323) 129 (by kernel_rfl) (by kernel_rfl) (by kernel_rfl) (by kernel_rfl),
PySem.W.mg_of X G (by kernel_rfl),
nW (.str "mostrows.questions" 323) 117 (by kernel_rfl) (by kernel_rfl) (by kernel_rfl) (by kernel_rfl),
PySem.W.mg_of X G (by kernel_rfl),
nW (.str "mostrows.questions" 323) 122 (by kernel_rfl) (by kernel_rfl) (by kernel_rfl) (by kernel_rfl),
PySem.W.mg_of X G (by kernel_rfl),
nW (.str "mostrows.questions" 323) 136 (by kernel_rfl) (by kernel_rfl) (by kernel_rfl) (by kernel_rfl),
nW (.str "mostrows.errors" 187) 59 (by kernel_rfl) (by kernel_rfl) (by kernel_rfl) (by kernel_rfl),
PySem.W.mg_of X G (by kernel_rfl),
nW (.str "mostrows.questions" 323) 143 (by kernel_rfl) (by kernel_rfl) (by kernel_rfl) (by kernel_rfl),
PySem.W.mg_of X G (by kernel_rfl),
nW (.str "law_mostrows_k17_questions_let_by_and_refuse" 369) 233 (by kernel_rfl) (by kernel_rfl) (by kernel_rfl) (by kernel_rfl),
PySem.W.mg_of X G (by kernel_rfl),
nW (.str "law_mostrows_k17_questions_let_by_and_refuse" 369) 207 (by kernel_rfl) (by kernel_rfl) (by kernel_rfl) (by kernel_rfl),
PySem.W.mg_of X G (by kernel_rfl),
nW (.str "law_mostrows_k17_questions_let_by_and_refuse" 369) 238 (by kernel_rfl) (by kernel_rfl) (by kernel_rfl) (by kernel_rfl),
PySem.W.mg_of X G (by kernel_rfl),
nW (.str "law_mostrows_k17_questions_let_by_and_refuse" 369) 214 (by kernel_rfl) (by kernel_rfl) (by kernel_rfl) (by kernel_rfl),
PySem.W.mg_of X G (by kernel_rfl),
nW (.str "law_mostrows_k17_questions_let_by_and_refuse" 369) 245 (by kernel_rfl) (by kernel_rfl) (by kernel_rfl) (by kernel_rfl),
PySem.W.mg_of X G (by kernel_rfl),
nW (.str "law_mostrows_k17_questions_let_by_and_refuse" 369) 221 (by kernel_rfl) (by kernel_rfl) (by kernel_rfl) (by kernel_rfl),
PySem.W.mg_of X G (by kernel_rfl),
nW (.str "law_mostrows_k17_questions_let_by_and_refuse" 369) 228 (by kernel_rfl) (by kernel_rfl) (by kernel_rfl) (by kernel_rfl),
PySem.W.mg_of X G (by kernel_rfl),
nW (.str "law_mostrows_k17_questions_let_by_and_refuse" 369) 252 (by kernel_rfl) (by kernel_rfl) (by kernel_rfl) (by kernel_rfl),
PySem.W.mg_none_of X G (by kernel_rfl),
PySem.W.mg_none_of X G (by kernel_rfl),
PySem.W.mg_none_of X G (by kernel_rfl),
PySem.W.mg_none_of X G (by kernel_rfl),
PySem.W.mg_none_of X G (by kernel_rfl),
PySem.W.mg_none_of X G (by kernel_rfl),
PySem.W.mg_none_of X G (by kernel_rfl),
PySem.W.mg_none_of X G (by kernel_rfl),
PySem.W.mg_none_of X G (by kernel_rfl),
PySem.W.mg_none_of X G (by kernel_rfl),
PySem.W.mg_none_of X G (by kernel_rfl),
PySem.W.mg_none_of X G (by kernel_rfl),
PySem.W.mg_none_of X G (by kernel_rfl),
⟨307,PySem.W.mg_of X G (by kernel_rfl)⟩,
⟨309,PySem.W.mg_of X G (by kernel_rfl)⟩,
⟨327,PySem.W.mg_of X G (by kernel_rfl)⟩,
⟨325,PySem.W.mg_of X G (by kernel_rfl)⟩,
⟨329,PySem.W.mg_of X G (by kernel_rfl)⟩⟩
theorem dC0{P:Program}{w:World}{mg:Str->Option Value}{base:Heap}(T:Txt (Hd.KF w.params) mg adr):FnOk P w (Hd.KF w.params) mg base CX0 7 253 Hd.aG4 ["_law_script"] (bU9 1 sH):=by
 have GI_NoRow:=aP5 (P:=P) (w:=w) (base:=base) T
 have GI_BadTable:=wR (P:=P) (w:=w) (base:=base) T
 have GI_BadHouse:=wS (P:=P) (w:=w) (base:=base) T
 have G_law_box:=aQ0 (P:=P) (w:=w) (base:=base) T
 have G_law_take:=aF7 (P:=P) (w:=w) (base:=base) T
 have G_law_names:=zB (P:=P) (w:=w) (base:=base) T G_law_take
 have V_law_names:=G_law_names.imp (aQ3 (K:=Hd.KF w.params))
 have G_is_name:=aQ1 (P:=P) (w:=w) (base:=base) T
 have G_are_unlike_names:=lT (P:=P) (w:=w) (base:=base) T G_is_name
 have G_is_right_alone:=oM (P:=P) (w:=w) (base:=base) T G_is_name G_are_unlike_names
 have G_names_of:=aF8 (P:=P) (w:=w) (base:=base) T
 have G_columns_of:=wY (P:=P) (w:=w) (base:=base) T
 have G_is_right_behind:=nR (P:=P) (w:=w) (base:=base) T G_is_right_alone G_names_of G_columns_of
 have GI_BadQuestion:=pS (P:=P) (w:=w) (base:=base) T
 have G_look:=cO1 (P:=P) (w:=w) (base:=base) T G_is_right_behind GI_BadQuestion
 have G_law_is_name:=sW (P:=P) (w:=w) (base:=base) T
 have G_law_columns:=sX (P:=P) (w:=w) (base:=base) T
 have G_law_due:=aQ2 (P:=P) (w:=w) (base:=base) T G_law_is_name G_law_columns
 have G_law_whole:=zC (P:=P) (w:=w) (base:=base) T
 have G_law_right:=zD (P:=P) (w:=w) (base:=base) T G_look G_law_due G_law_whole
 have G_law_bad_columns:=nS (P:=P) (w:=w) (base:=base) T G_law_take
 have G_law_changed:=sY (P:=P) (w:=w) (base:=base) T G_law_take G_law_bad_columns
 have V_law_take:=zI (P:=P) (w:=w) (base:=base) T
 have V_law_order:=xC (P:=P) (w:=w) (base:=base) T V_law_take
 have V_law_some_columns:=kY (P:=P) (w:=w) (base:=base) T V_law_order
 have V_law_any_tables:=nU (P:=P) (w:=w) (base:=base) T V_law_take V_law_some_columns
 have V_law_ear_tables:=nV (P:=P) (w:=w) (base:=base) T V_law_take V_law_some_columns V_law_order
 have V_law_ring_tables:=lW (P:=P) (w:=w) (base:=base) T V_law_take V_law_some_columns V_law_order
 have V_law_question:=pT (P:=P) (w:=w) (base:=base) T V_law_names V_law_take V_law_order V_law_any_tables V_law_ear_tables V_law_ring_tables
 have G_law_question:=V_law_question.imp (wX (K:=Hd.KF w.params))
 have G_law:=dA0 (P:=P) (w:=w) (base:=base) T G_law_box G_law_question G_law_right G_law_take G_law_changed
 exact G_law
theorem bX9:PySem.W.WalkO Hd.Vw [] (PySem.W.XL Hd.Vw []) (PySem.W.InK Hd.KF) PySem.Challenge.rw_mostrows_k17_questions_let_by_and_refuse.row.toRowW Hd.dD9 [] (fun f vs=>PySem.call f vs):=by
 refine L2.cG6 (l:=PySem.Challenge.rw_mostrows_k17_questions_let_by_and_refuse) (K:=Hd.KF) (n:=63) (k:=7) (x:="_law_script") (CX:=fun _=>CX0) (sp:=fun w=>bU9 1 sH) rfl (by decide) (by kernel_rfl) ⟨rfl,by decide,by decide⟩ (fun w h Y=>Y) (fun w mg fa h X G e=>?_) (fun w _ a ns hl hO hS=>aP9 (cN8 aF6) (by kernel_rfl) hO hS (bX8 ns hl)) fun _ _ _ _ _ z=>z
 have T:=txt X G
 have e2:=T.m_law.symm.trans e
 cases e2
 exact⟨Hd.aG4,fun s v=>.of_eq (by kernel_rfl),fun base _ _=>dC0 T⟩
end Mr
open PySem PySem.W PyProof.Rows
theorem PySem.Challenge.cw_mostrows_k17_questions_let_by_and_refuse_holds : PySem.Challenge.rw_mostrows_k17_questions_let_by_and_refuse.Holds :=
 Hd.dL1 Mr.bX9
#print axioms PySem.Challenge.cw_mostrows_k17_questions_let_by_and_refuse_holds
