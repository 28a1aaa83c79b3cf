import PyProof.Rows.All
import Wide.All
import OpenK.AllK
import Wide.FinOn
import Lean
import PyProof.EqAt
import PyProof.EqKinds
import PyProof.TupleCall
import PyProof.StationsW
import PyProof.RulesAs
import PyProof.ExcClass2
import PyProof.Rows.Exc
import OpenK.KMake
import PyProof.InstStoreFacts
import OpenK.KCls
import PyProof.ExcArgsOwn
import PyProof.ExcAttrAll.ValueError
import PyProof.FitsInt
import PyProof.FString
import PyProof.FString4
import PyProof.StrLawsRepr
import PyProof.NsDelKeeps
import PyProof.NoPylong
import PyProof.FitsBits
import PyProof.Rows.RuleM_int
import PyProof.P3In
import PyProof.NeData
import PyProof.Draws
import PyProof.ZipIter
import PyProof.EnumMake
import PySem.SetOps
import PyProof.SetScanFacts
import PyProof.WalksMore
import PyProof.SetNew
import PyProof.SetKind
import PyProof.Rows.SetFrom
import PyProof.TupleKey
import PyProof.IsRules
import PyProof.SetRoads
import PySem.Challenge.RW_mostrows_k13_cut_kept_made
set_option Elab.async false
set_option linter.all false
set_option maxRecDepth 100000
set_option maxHeartbeats 4000000
namespace Hd
open PySem PySem.W
noncomputable def top(i:Nat):Stmt:=PySem.Challenge.pw_mostrows_k13_cut_kept_made.main.body.getD i (.Pass ⟨0,0,0,0⟩)
noncomputable def kG(x q:Str)(s:Stmt)(m:Value)(c:Addr):FuncData:=match s with
 | .FunctionDef _ a b _ _ _ e _ _ _=>fnOf x q a b e .none .none .none m none (.ref c) .none
 | _=>default
noncomputable def bZ2:DefRec:=match top 19 with
 | .FunctionDef n a b _ _ _ e _ _ p=>⟨n,a,b,e,p⟩
 | _=>⟨"",default,[],default,default⟩
noncomputable def kE(P:Params)(x:Str)(t:Tok)(v:Value):DictEntry:=⟨PyData.keyHash P x,.str x t,v⟩
noncomputable def kT(l:List Value):Obj:=⟨.type "tuple",none,.seq l.toArray 0,#[]⟩
noncomputable def kF(f:FuncData):Obj:=⟨.type "function",none,.func f,#[]⟩
noncomputable def bM8:=kG "table_of" "table_of" (top 1) (.str "mostrows.tables" 187) 20
noncomputable def bM9:=kG "places_of" "places_of" (top 2) (.str "mostrows.tables" 187) 25
noncomputable def bN0:=kG "picked" "picked" (top 3) (.str "mostrows.tables" 187) 30
noncomputable def bN1:=kG "cut" "cut" (top 4) (.str "mostrows.tables" 187) 35
noncomputable def bN2:=kG "kept" "kept" (top 5) (.str "mostrows.tables" 187) 40
noncomputable def bN3:=kG "values_in" "values_in" (top 6) (.str "mostrows.tables" 187) 45
noncomputable def bN4:=kG "_law_box" "_law_box" (top 8) (.str "law_mostrows_k13_cut_kept_made" 227) 52
noncomputable def bN5:=kG "_law_take" "_law_take" (top 9) (.str "law_mostrows_k13_cut_kept_made" 227) 59
noncomputable def bN6:=kG "_law_order" "_law_order" (top 10) (.str "law_mostrows_k13_cut_kept_made" 227) 66
noncomputable def bN7:=kG "_law_names" "_law_names" (top 11) (.str "law_mostrows_k13_cut_kept_made" 227) 71
noncomputable def bN8:=kG "_law_rows" "_law_rows" (top 12) (.str "law_mostrows_k13_cut_kept_made" 227) 76
noncomputable def bN9:=kG "_law_table" "_law_table" (top 13) (.str "law_mostrows_k13_cut_kept_made" 227) 83
noncomputable def bO0:=kG "_law_whole" "_law_whole" (top 14) (.str "law_mostrows_k13_cut_kept_made" 227) 90
noncomputable def bO1:=kG "_law_is_table" "_law_is_table" (top 15) (.str "law_mostrows_k13_cut_kept_made" 227) 95
noncomputable def bB4:=kG "_law_at" "_law_at" (top 16) (.str "law_mostrows_k13_cut_kept_made" 227) 100
noncomputable def bB5:=kG "_law_cut_right" "_law_cut_right" (top 17) (.str "law_mostrows_k13_cut_kept_made" 227) 105
noncomputable def bB6:=kG "_law_kept_right" "_law_kept_right" (top 18) (.str "law_mostrows_k13_cut_kept_made" 227) 110
noncomputable def aA5:=kG "law" "law" (top 19) (.str "law_mostrows_k13_cut_kept_made" 227) 117
noncomputable def KF(P:Params):PySem.W.Frag:=[
(2,⟨.none,none,(.dict #[] 0),#[]⟩),
(3,⟨(.type "dict"),none,(.dict #[kE P "__name__" 165 (.str "law_mostrows_k13_cut_kept_made" 227),kE P "__doc__" 166 .none,kE P "__package__" 167 .none,kE P "__loader__" 168 (.builtin "__main__.__loader__#opaque"),kE P "__spec__" 169 .none,kE P "__annotations__" 170 (.ref 6),kE P "__builtins__" 171 (.ref 4),kE P "__file__" 173 (.str "/claim/cut.py" 172),kE P "__cached__" 174 .none,kE P "table_of" 196 (.ref 21),kE P "places_of" 202 (.ref 26),kE P "picked" 208 (.ref 31),kE P "cut" 214 (.ref 36),kE P "kept" 220 (.ref 41),kE P "values_in" 226 (.ref 46),kE P "_law_box" 238 (.ref 53),kE P "_law_take" 248 (.ref 60),kE P "_law_order" 258 (.ref 67),kE P "_law_names" 264 (.ref 72),kE P "_law_rows" 270 (.ref 77),kE P "_law_table" 280 (.ref 84),kE P "_law_whole" 287 (.ref 91),kE P "_law_is_table" 293 (.ref 96),kE P "_law_at" 299 (.ref 101),kE P "_law_cut_right" 305 (.ref 106),kE P "_law_kept_right" 311 (.ref 111),kE P "law" 328 (.ref 118)] 27),#[]⟩),
(6,⟨(.type "dict"),none,(.dict #[] 0),#[]⟩),
(15,kT []),
(17,kT [(.str "columns" 192),(.str "rows" 193)]),
(18,kT []),
(20,⟨(.type "code"),none,(.fields #[(.str "table_of" 189),(.str "table_of" 190),(.str "/claim/cut.py" 191),(.int 2 0),(.int 2 0),(.int 0 0),(.int 0 0),(.int 3 0),(.ref 15),(.bool true),(.int 181 0),(.ref 16),.none,(.ref 17),(.ref 18),(.ref 19),(.int 194 0),(.int 2 0),(.str "/claim/cut.py" 195)]),#[]⟩),
(21,kF bM8),
(22,kT []),
(25,⟨(.type "code"),none,(.fields #[(.str "places_of" 197),(.str "places_of" 198),(.str "/claim/cut.py" 199),(.int 4 0),(.int 2 0),(.int 0 0),(.int 0 0),(.int 3 0),(.ref 22),(.bool true),(.int 181 0),(.ref 23),.none,.none,.none,(.ref 24),(.int 200 0),(.int 4 0),(.str "/claim/cut.py" 201)]),#[]⟩),
(26,kF bM9),
(27,kT []),
(30,⟨(.type "code"),none,(.fields #[(.str "picked" 203),(.str "picked" 204),(.str "/claim/cut.py" 205),(.int 6 0),(.int 2 0),(.int 0 0),(.int 0 0),(.int 3 0),(.ref 27),(.bool true),(.int 181 0),(.ref 28),.none,.none,.none,(.ref 29),(.int 206 0),(.int 6 0),(.str "/claim/cut.py" 207)]),#[]⟩),
(31,kF bN0),
(32,kT []),
(35,⟨(.type "code"),none,(.fields #[(.str "cut" 209),(.str "cut" 210),(.str "/claim/cut.py" 211),(.int 8 0),(.int 2 0),(.int 0 0),(.int 0 0),(.int 3 0),(.ref 32),(.bool true),(.int 181 0),(.ref 33),.none,.none,.none,(.ref 34),(.int 212 0),(.int 8 0),(.str "/claim/cut.py" 213)]),#[]⟩),
(36,kF bN1),
(37,kT []),
(40,⟨(.type "code"),none,(.fields #[(.str "kept" 215),(.str "kept" 216),(.str "/claim/cut.py" 217),(.int 11 0),(.int 3 0),(.int 0 0),(.int 0 0),(.int 3 0),(.ref 37),(.bool true),(.int 181 0),(.ref 38),.none,.none,.none,(.ref 39),(.int 218 0),(.int 11 0),(.str "/claim/cut.py" 219)]),#[]⟩),
(41,kF bN2),
(42,kT []),
(45,⟨(.type "code"),none,(.fields #[(.str "values_in" 221),(.str "values_in" 222),(.str "/claim/cut.py" 223),(.int 14 0),(.int 2 0),(.int 0 0),(.int 0 0),(.int 3 0),(.ref 42),(.bool true),(.int 181 0),(.ref 43),.none,.none,.none,(.ref 44),(.int 224 0),(.int 14 0),(.str "/claim/cut.py" 225)]),#[]⟩),
(46,kF bN3),
(47,kT []),
(49,kT [(.str "_law_script" 232),(.str "_law_k" 233),(.str "_law_cell" 234),(.str "_law_seed" 235)]),
(50,kT []),
(52,⟨(.type "code"),none,(.fields #[(.str "_law_box" 229),(.str "_law_box" 230),(.str "/claim/cut.py" 231),(.int 18 0),(.int 2 0),(.int 0 0),(.int 0 0),(.int 3 0),(.ref 47),(.bool true),(.int 181 0),(.ref 48),.none,(.ref 49),(.ref 50),(.ref 51),(.int 236 0),(.int 18 0),(.str "/claim/cut.py" 237)]),#[]⟩),
(53,kF bN4),
(54,kT []),
(56,kT [(.str "_law_box_here" 242),(.str "_law_many" 243),(.str "_law_digit" 244),(.str "_law_one" 245)]),
(57,kT []),
(59,⟨(.type "code"),none,(.fields #[(.str "_law_take" 239),(.str "_law_take" 240),(.str "/claim/cut.py" 241),(.int 26 0),(.int 2 0),(.int 0 0),(.int 0 0),(.int 3 0),(.ref 54),(.bool true),(.int 181 0),(.ref 55),.none,(.ref 56),(.ref 57),(.ref 58),(.int 246 0),(.int 26 0),(.str "/claim/cut.py" 247)]),#[]⟩),
(60,kF bN5),
(61,kT []),
(63,kT [(.str "_law_box_here" 252),(.str "_law_things" 253),(.str "_law_left" 254),(.str "_law_found" 255)]),
(64,kT []),
(66,⟨(.type "code"),none,(.fields #[(.str "_law_order" 249),(.str "_law_order" 250),(.str "/claim/cut.py" 251),(.int 34 0),(.int 2 0),(.int 0 0),(.int 0 0),(.int 3 0),(.ref 61),(.bool true),(.int 181 0),(.ref 62),.none,(.ref 63),(.ref 64),(.ref 65),(.int 256 0),(.int 34 0),(.str "/claim/cut.py" 257)]),#[]⟩),
(67,kF bN6),
(68,kT []),
(71,⟨(.type "code"),none,(.fields #[(.str "_law_names" 259),(.str "_law_names" 260),(.str "/claim/cut.py" 261),(.int 40 0),(.int 2 0),(.int 0 0),(.int 0 0),(.int 3 0),(.ref 68),(.bool true),(.int 181 0),(.ref 69),.none,.none,.none,(.ref 70),(.int 262 0),(.int 40 0),(.str "/claim/cut.py" 263)]),#[]⟩),
(72,kF bN7),
(73,kT []),
(76,⟨(.type "code"),none,(.fields #[(.str "_law_rows" 265),(.str "_law_rows" 266),(.str "/claim/cut.py" 267),(.int 60 0),(.int 3 0),(.int 0 0),(.int 0 0),(.int 3 0),(.ref 73),(.bool true),(.int 181 0),(.ref 74),.none,.none,.none,(.ref 75),(.int 268 0),(.int 60 0),(.str "/claim/cut.py" 269)]),#[]⟩),
(77,kF bN8),
(78,kT []),
(80,kT [(.str "_law_box_here" 274),(.str "_law_names_here" 275),(.str "_law_ceiling" 276),(.str "_law_columns" 277)]),
(81,kT []),
(83,⟨(.type "code"),none,(.fields #[(.str "_law_table" 271),(.str "_law_table" 272),(.str "/claim/cut.py" 273),(.int 64 0),(.int 3 0),(.int 0 0),(.int 0 0),(.int 3 0),(.ref 78),(.bool true),(.int 181 0),(.ref 79),.none,(.ref 80),(.ref 81),(.ref 82),(.int 278 0),(.int 64 0),(.str "/claim/cut.py" 279)]),#[]⟩),
(84,kF bN9),
(85,kT []),
(87,kT [(.str "_law_found" 284)]),
(88,kT []),
(90,⟨(.type "code"),none,(.fields #[(.str "_law_whole" 281),(.str "_law_whole" 282),(.str "/claim/cut.py" 283),(.int 67 0),(.int 1 0),(.int 0 0),(.int 0 0),(.int 3 0),(.ref 85),(.bool true),(.int 181 0),(.ref 86),.none,(.ref 87),(.ref 88),(.ref 89),(.int 285 0),(.int 67 0),(.str "/claim/cut.py" 286)]),#[]⟩),
(91,kF bO0),
(92,kT []),
(95,⟨(.type "code"),none,(.fields #[(.str "_law_is_table" 288),(.str "_law_is_table" 289),(.str "/claim/cut.py" 290),(.int 69 0),(.int 3 0),(.int 0 0),(.int 0 0),(.int 3 0),(.ref 92),(.bool true),(.int 181 0),(.ref 93),.none,.none,.none,(.ref 94),(.int 291 0),(.int 69 0),(.str "/claim/cut.py" 292)]),#[]⟩),
(96,kF bO1),
(97,kT []),
(100,⟨(.type "code"),none,(.fields #[(.str "_law_at" 294),(.str "_law_at" 295),(.str "/claim/cut.py" 296),(.int 76 0),(.int 3 0),(.int 0 0),(.int 0 0),(.int 3 0),(.ref 97),(.bool true),(.int 181 0),(.ref 98),.none,.none,.none,(.ref 99),(.int 297 0),(.int 76 0),(.str "/claim/cut.py" 298)]),#[]⟩),
(101,kF bB4),
(102,kT []),
(105,⟨(.type "code"),none,(.fields #[(.str "_law_cut_right" 300),(.str "_law_cut_right" 301),(.str "/claim/cut.py" 302),(.int 78 0),(.int 2 0),(.int 0 0),(.int 0 0),(.int 3 0),(.ref 102),(.bool true),(.int 181 0),(.ref 103),.none,.none,.none,(.ref 104),(.int 303 0),(.int 78 0),(.str "/claim/cut.py" 304)]),#[]⟩),
(106,kF bB5),
(107,kT []),
(110,⟨(.type "code"),none,(.fields #[(.str "_law_kept_right" 306),(.str "_law_kept_right" 307),(.str "/claim/cut.py" 308),(.int 81 0),(.int 3 0),(.int 0 0),(.int 0 0),(.int 3 0),(.ref 107),(.bool true),(.int 181 0),(.ref 108),.none,.none,.none,(.ref 109),(.int 309 0),(.int 81 0),(.str "/claim/cut.py" 310)]),#[]⟩),
(111,kF bB6),
(112,kT []),
(114,kT [(.str "_law_script" 315),(.str "_law_box_here" 316),(.str "_law_names_here" 317),(.str "_law_table_here" 318),(.str "_law_columns" 319),(.str "_law_rows_here" 320),(.str "_law_some" 321),(.str "_law_column" 322),(.str "_law_value" 323),(.str "_law_drawn" 324),(.str "_law_given" 325)]),
(115,kT []),
(117,⟨(.type "code"),none,(.fields #[(.str "law" 312),(.str "law" 313),(.str "/claim/cut.py" 314),(.int 92 0),(.int 1 0),(.int 0 0),(.int 0 0),(.int 3 0),(.ref 112),(.bool true),(.int 181 0),(.ref 113),.none,(.ref 114),(.ref 115),(.ref 116),(.int 326 0),(.int 92 0),(.str "/claim/cut.py" 327)]),#[]⟩),
(118,kF aA5)]
noncomputable def Vw:Program:=view PySem.Challenge.pw_mostrows_k13_cut_kept_made [1,2,3,4,5,6,8,9,10,11,12,13,14,15,16,17,18,19]
theorem cF6:PySem.Challenge.rw_mostrows_k13_cut_kept_made.wellSaid=true:=by kernel_rfl
theorem lG:LeftO PySem.Challenge.rw_mostrows_k13_cut_kept_made.row.prog Vw [] (fun s=>xlAt Vw [] s&&recOk (RowW.records PySem.Challenge.rw_mostrows_k13_cut_kept_made.row.toRowW) s) (fun s=>[2,3,6,15,17,18,20,21,22,25,26,27,30,31,32,35,36,37,40,41,42,45,46,47,49,50,52,53,54,56,57,59,60,61,63,64,66,67,68,71,72,73,76,77,78,80,81,83,84,85,87,88,90,91,92,95,96,97,100,101,102,105,106,107,110,111,112,114,115,117,118].map s.heap.get?) (fun w=>(KF w.params).map fun p=>some p.2) 1186:=fun w=>by kernel_rfl
theorem ends(h:WalkO Vw [] (XL Vw []) (InK KF) PySem.Challenge.rw_mostrows_k13_cut_kept_made.row.toRowW bZ2 [] (fun f vs=>PySem.call f vs)):PySem.Challenge.rw_mostrows_k13_cut_kept_made.Holds:=
 holds_law cF6 fun e=>holds_open (d:=bZ2) (kwd:=[]) lG (InK.of fun _=>by kernel_rfl) InK.keeps (fun s e=>xl_of s (Bool.and_eq_true_iff.mp e).1) XL.keeps (by kernel_rfl) (by kernel_rfl) (by kernel_rfl) (fun s e=>recFacts_of (Bool.and_eq_true_iff.mp e).2) (by kernel_rfl) e (by kernel_rfl) ⟨rfl,rfl,rfl,rfl,rfl,by decide +kernel⟩ (by w_witness2) h
end Hd
namespace L2
open PySem PySem.Spec PyProof.Rows
noncomputable abbrev Key:=Sum Int Str
noncomputable def bO2:Key->Value->Bool
 | .inl k,v=>Value.isInt k v
 | .inr x,v=>Value.isStrOf x v
noncomputable def cF7(w:World):Key->Int
 | .inl k=>hashInt k
 | .inr x=>hashStr w x
theorem bY:∀ {k:Key} {v:Value},bO2 k v=true->(∃ i t,k=Sum.inl i/\v=Value.int i t)\/(∃ x t,k=Sum.inr x/\v=Value.str x t)
 | .inl i,v,h=>by
   obtain⟨t,e⟩:=Value.isInt_shape (k:=i) (v:=v) h
   exact .inl ⟨i,t,rfl,e⟩
 | .inr x,v,h=>by
   obtain⟨t,e⟩:=Value.isStrOf_shape (x:=x) (v:=v) h
   exact .inr ⟨x,t,rfl,e⟩
theorem bO3(a b:Int):decide ((Sum.inl a:Key)=Sum.inl b)=(a==b):=by
 by_cases e:a=b
 ·subst e;simp
 ·have h:¬ (Sum.inl a:Key)=Sum.inl b:=fun q=>e (Sum.inl.inj q)
  rw[decide_eq_false h]
  exact(beq_eq_false_iff_ne.mpr e).symm
theorem bO4(a b:Str):decide ((Sum.inr a:Key)=Sum.inr b)=decide (a=b):=by
 by_cases e:a=b
 ·subst e;simp
 ·have h:¬ (Sum.inr a:Key)=Sum.inr b:=fun q=>e (Sum.inr.inj q)
  rw[decide_eq_false h,decide_eq_false e]
theorem bO5(a:Int)(b:Str):decide ((Sum.inl a:Key)=Sum.inr b)=false:=decide_eq_false (fun q=>nomatch q)
theorem bO6(a:Str)(b:Int):decide ((Sum.inr a:Key)=Sum.inl b)=false:=decide_eq_false (fun q=>nomatch q)
noncomputable def aK1(prog:Program)(w:World):PySem.KeyKind prog w Key where
 is:=bO2
 hash:=cF7 w
 inj:=fun v a b ha hb=>by
  rcases bY ha with⟨i,t,rfl,rfl⟩ | ⟨x,t,rfl,rfl⟩
  ·rcases bY hb with⟨j,u,rfl,e⟩ | ⟨y,u,rfl,e⟩
   ·injection e with e1 _;rw[e1]
   ·exact nomatch e
  ·rcases bY hb with⟨j,u,rfl,e⟩ | ⟨y,u,rfl,e⟩
   ·exact nomatch e
   ·injection e with e1 _;rw[e1]
 byValue:=fun k v h=>by
  rcases bY h with⟨i,t,rfl,rfl⟩ | ⟨x,t,rfl,rfl⟩<;>rfl
 pyHash:=fun hv h=>by
  rcases bY hv with⟨i,t,rfl,rfl⟩ | ⟨x,t,rfl,rfl⟩
  ·exact wpAny_pyHash_int h
  ·exact wpAny_pyHash_str h
 eqBool:=fun hu hv h=>by
  rcases bY hu with⟨i,t,rfl,rfl⟩ | ⟨x,t,rfl,rfl⟩
  ·rcases bY hv with⟨j,u,rfl,rfl⟩ | ⟨y,u,rfl,rfl⟩
   ·rw[bO3]at h;exact wpAny_eqBool_int h
   ·rw[bO5]at h;exact SeqAt.EqAt.int_str i t y u _ _ _ _ h
  ·rcases bY hv with⟨j,u,rfl,rfl⟩ | ⟨y,u,rfl,rfl⟩
   ·rw[bO6]at h;exact SeqAt.EqAt.str_int x t j u _ _ _ _ h
   ·rw[bO4]at h;exact wpAny_eqBool_str h
 «strs»:=fun k x t v h=>by
  rcases bY h with⟨i,u,rfl,e⟩ | ⟨y,u,rfl,e⟩
  ·exact nomatch e
  ·injection e with e1 _
   subst e1
   cases v<;>rfl
end L2
namespace L2
open PySem PySem.Spec PyProof.Rows
inductive V where
 | non | bl (b:Bool) | int (i:Int) | str (x:Str) | byt (b:Array UInt8) | flt (b:UInt64) | ref (a:Addr) | ty (n:String)
 deriving DecidableEq
noncomputable def dN:V->Value->Prop
 | .non,u=>u=Value.none
 | .bl b,u=>u=Value.bool b
 | .int i,u=>∃ t,u=Value.int i t
 | .str x,u=>∃ t,u=Value.str x t
 | .byt b,u=>∃ t,u=Value.bytes b t
 | .flt b,u=>∃ t,u=Value.float b t
 | .ref a,u=>u=Value.ref a
 | .ty n,u=>u=Value.type n
noncomputable abbrev bL:List V->List Value->Prop:=Paired dN
theorem bL.length{xs:List V}{us:List Value}(r:bL xs us):xs.length=us.length:=Paired.length r
theorem bL.get:∀ {xs:List V} {us:List Value} {i:Nat} {x:V},bL xs us->xs[i]? = some x->∃ u,us[i]? = some u/\dN x u
 | _,_,_,_,.nil,e=>by simp at e
 | _,_,0,_,.cons r _,e=>by simp at e;subst e;exact⟨_,rfl,r⟩
 | _,_,i+1,x,.cons _ t,e=>by
   obtain⟨u,h1,h2⟩:=bL.get (i:=i) (x:=x) t (by simpa using e)
   exact⟨u,by simpa using h1,h2⟩
theorem bL.set{x:V}{u:Value}(r:dN x u):∀ {xs:List V} {us:List Value} (i:Nat),bL xs us->bL (xs.set i x) (us.set i u)
 | _,_,_,.nil=>.nil
 | _,_,0,.cons _ t=>.cons r t
 | _,_,i+1,.cons q t=>.cons q (bL.set r i t)
theorem bL.append:∀ {xs ys:List V} {us ws:List Value},bL xs us->bL ys ws->bL (xs++ys) (us++ws)
 | _,_,_,_,.nil,s=>s
 | _,_,_,_,.cons r t,s=>.cons r (bL.append t s)
theorem bL.take:∀ {xs:List V} {us:List Value} (n:Nat),bL xs us->bL (xs.take n) (us.take n)
 | _,_,0,_=>.nil
 | _,_,_+1,.nil=>.nil
 | _,_,n+1,.cons r t=>.cons r (bL.take n t)
theorem bL.drop:∀ {xs:List V} {us:List Value} (n:Nat),bL xs us->bL (xs.drop n) (us.drop n)
 | _,_,0,r=>r
 | _,_,_+1,.nil=>.nil
 | _,_,n+1,.cons _ t=>bL.drop n t
theorem bL.none_of:∀ {xs:List V} {us:List Value} {i:Nat},bL xs us->xs[i]? = none->us[i]? = none:=fun{xs us i} r e=>by
 have h1:=r.length
 have h2:xs.length<=i:=List.getElem?_eq_none_iff.mp e
 exact List.getElem?_eq_none_iff.mpr (by omega)
noncomputable def aJ4:Option V->Option Value->Prop
 | some v,some u=>dN v u
 | none,none=>True
 | _,_=>False
noncomputable def KV{κ:Type}:List (κ×V)->List (κ×Value)->Prop:=Paired fun(p:κ×V) (q:κ×Value)=>p.1=q.1/\dN p.2 q.2
noncomputable def kV:Key->V
 | .inl i=>.int i
 | .inr x=>.str x
inductive HO where
 | lst (xs:List V)
 | tup (xs:List V)
 | dK (kvs:List (Key×V)) | dT (kvs:List (List Key×V))
 | set (S:Int->Bool) (n:Nat)
 | ins (C dx:Addr) (fs:List (Str×V))
 | own (x:Addr)
 | xd (fs:List (Str×V))
 | met (f x:Addr)
 | rng (lo hi:Int)
 | frz (o:Obj) (u:HO)
 | tbl (ps:Array Value)
 | ext (φ:Heap->Prop)
noncomputable abbrev Hp:=Addr->Option HO
noncomputable def upd(H:Hp)(a:Addr)(o:HO):Hp:=fun b=>if b=a then some o else H b
theorem aT{H:Hp}{a:Addr}{o:HO}:upd H a o a=some o:=by unfold upd;rw[if_pos rfl]
theorem aH{H:Hp}{a b:Addr}{o:HO}(h:b≠a):upd H a o b=H b:=by unfold upd;rw[if_neg h]
theorem aV{H:Hp}{a b:Addr}{o:HO}(h:H a=some o)(h':H b=none):a≠b:=by
 intro e;subst e;rw[h]at h';cases h'
noncomputable def cD3(h:Heap)(a:Addr):Prop:=∃ o,h.get? a=some o/\o.dict=none
section
variable(P:Program)(w:World)
noncomputable def cT(H:Hp)(h:Heap)(a:Addr):HO->Prop
 | .lst xs=>xs.length<=sizeLine/\∃ (its:List Value) (n:Nat),bL xs its/\h.get? a=some {cls:=.type "list",data:=.seq its.toArray n}
 | .tup xs=>xs.length<=sizeLine/\∃ its:List Value,bL xs its/\IsTup h a its.toArray/\cD3 h a
 | .dK kvs=>kvs.length<=sizeLine/\(a==sysModules)=false/\∃ vs,KV kvs vs/\h.DictOf (aK1 P w) a vs
 | .dT kvs=>kvs.length<=sizeLine/\(a==sysModules)=false/\∃ xs:List (List Key×Addr×Value),
   Paired (fun(p:List Key×V) (q:List Key×Addr×Value)=>p.1=q.1/\H q.2.1=some (.tup (p.1.map kV))/\dN p.2 q.2.2) kvs xs /\
   ∃ o es ep,h.get? a=some o/\o.ExactDict/\o.data=.dict es ep/\es.toList=xs.map (entryOfKey (tupleKind (aK1 P w)))/\(xs.map (·.1)).Nodup
 | .set S n=>h.SetOf (intKind P w) a S n
 | .ins C dx fs=>H dx=some (.own a)/\fs.length<=1000/\dx≠a/\h.get? a=some (PySem.W.instObj C dx) /\
   ∃ mA,h.Ns1 dx mA/\(∀ f,aJ4 (fs.lookup f) (mA f))/\PySem.Within mA (fs.map (·.1))
 | .own _=>∃ o,h.get? a=some o
 | .xd fs=>∃ mA,h.Ns1 a mA/\∀ f,aJ4 (fs.lookup f) (mA f)
 | .rng lo hi=>∃ t u v,h.get? a=some {cls:=.type "range",data:=.fields #[.int lo t,.int hi u,.int 1 v]}
 | .frz o u=>h.get? a=some o/\cT H h a u
 | .tbl ps=>h.get? a=some {cls:=.none,data:=.fields ps}
 | .met f x=>h.get? a=some (PySem.W.methodObj (.ref f) (.ref x))
 | .ext φ=>φ h/\(∃ o,h.get? a=some o)/\∀ h1 h2:Heap,φ h1->(∀ o,h1.get? a=some o->h2.get? a=some o)->φ h2
noncomputable def HOk(H:Hp)(h:Heap):Prop:=∀ a o,H a=some o->cT P w H h a o
end
section
variable{P:Program}{w:World}{H H':Hp}{h h':Heap}{a:Addr}{o:HO}
theorem cT.lt(x:cT P w H h a o):a < h.objs.size:=by
 cases o with
 | lst xs=>obtain⟨_,_,_,_,e⟩:=x;exact Heap.lt_size e
 | tup xs=>obtain⟨_,_,_,p,_⟩:=x;exact p.lt
 | dK kvs=>obtain⟨_,_,_,_,o,_,_,e,_⟩:=x;exact Heap.lt_size e
 | dT kvs=>obtain⟨_,_,_,_,o,_,_,e,_⟩:=x;exact Heap.lt_size e
 | set S n=>obtain⟨o,_,_,_,e,_⟩:=x;exact Heap.lt_size e
 | ins C dx fs=>obtain⟨_,_,_,e,_⟩:=x;exact Heap.lt_size e
 | own y=>obtain⟨_,e⟩:=x;exact Heap.lt_size e
 | xd fs=>obtain⟨_,⟨_,_,_,e,_⟩,_⟩:=x;exact Heap.lt_size e
 | rng lo hi=>obtain⟨_,_,_,e⟩:=x;exact Heap.lt_size e
 | frz ob u=>obtain⟨e,_⟩:=x;exact Heap.lt_size e
 | tbl ps=>exact Heap.lt_size (show h.get? a=some _ from x)
 | met f y=>exact Heap.lt_size (show h.get? a=some _ from x)
 | ext φ=>obtain⟨_,⟨_,e⟩,_⟩:=x;exact Heap.lt_size e
theorem Paired.mapP{α β:Type}{F G:α->β->Prop}:∀ {l₁:List α} {l₂:List β},Paired F l₁ l₂->(∀ a b,F a b->G a b)->Paired G l₁ l₂
 | _,_,.nil,_=>.nil
 | _,_,.cons r t,f=>.cons (f _ _ r) (Paired.mapP t f)
theorem cT.stay(x:cT P w H h a o)(k:∀ b u,(b=a\/H b=some (.own a))->h.get? b=some u->h'.get? b=some u)
  (ho:∀ b,H b=some (.own a)->H' b=some (.own a)) (ht:∀ b xs,H b=some (.tup xs)->H' b=some (.tup xs)):cT P w H' h' a o:=by
 induction o with
 | lst xs=>obtain⟨z,its,n,r,e⟩:=x;exact⟨z,its,n,r,k _ _ (.inl rfl) e⟩
 | tup xs=>obtain⟨z,its,r,⟨ob,e,c⟩,⟨ob2,e2,c2⟩⟩:=x;exact⟨z,its,r,⟨ob,k _ _ (.inl rfl) e,c⟩,⟨ob2,k _ _ (.inl rfl) e2,c2⟩⟩
 | dK kvs=>obtain⟨z,y,vs,r,ob,es,ep,e,c⟩:=x;exact⟨z,y,vs,r,ob,es,ep,k _ _ (.inl rfl) e,c⟩
 | dT kvs=>
   obtain⟨z,y,xs,r,ob,es,ep,e,c⟩:=x
   exact⟨z,y,xs,Paired.mapP r fun p q z=>⟨z.1,ht _ _ z.2.1,z.2.2⟩,ob,es,ep,k _ _ (.inl rfl) e,c⟩
 | set S n=>obtain⟨ob,es,ep,t,e,c⟩:=x;exact⟨ob,es,ep,t,k _ _ (.inl rfl) e,c⟩
 | ins C dx fs=>
   obtain⟨d,z,ne,e,mA,⟨od,es,ep,e2,c⟩,r⟩:=x
   exact⟨ho _ d,z,ne,k _ _ (.inl rfl) e,mA,⟨od,es,ep,k _ _ (.inr d) e2,c⟩,r⟩
 | own y=>obtain⟨ob,e⟩:=x;exact⟨ob,k _ _ (.inl rfl) e⟩
 | xd fs=>obtain⟨mA,⟨od,es,ep,e,c⟩,r⟩:=x;exact⟨mA,⟨od,es,ep,k _ _ (.inl rfl) e,c⟩,r⟩
 | rng lo hi=>obtain⟨t,u,v,e⟩:=x;exact⟨t,u,v,k _ _ (.inl rfl) e⟩
 | frz ob u ih=>obtain⟨e,q⟩:=x;exact⟨k _ _ (.inl rfl) e,ih q⟩
 | tbl ps=>
   have e:h.get? a=some {cls:=.none,data:=.fields ps}:=x
   show h'.get? a=some {cls:=.none,data:=.fields ps}
   exact k a _ (.inl rfl) e
 | met f y=>
   have e:h.get? a=some (PySem.W.methodObj (.ref f) (.ref y)):=x
   show h'.get? a=some (PySem.W.methodObj (.ref f) (.ref y))
   exact k a _ (.inl rfl) e
 | ext φ=>obtain⟨p,⟨o,e⟩,st⟩:=x;exact⟨st _ _ p fun o q=>k _ _ (.inl rfl) q,⟨o,k _ _ (.inl rfl) e⟩,st⟩
theorem HOk.lt(x:HOk P w H h)(e:H a=some o):a < h.objs.size:=(x a o e).lt
theorem HOk.fresh(x:HOk P w H h)(e:h.objs.size<=a):H a=none:=by
 cases q:H a with
 | none=>rfl
 | some u=>exact absurd (Nat.lt_of_lt_of_le (x.lt q) e) (Nat.lt_irrefl _)
theorem HOk.kept(x:HOk P w H h)(k:∀ b u,h.get? b=some u->h'.get? b=some u):HOk P w H h':=fun a o e=>
 (x a o e).stay (fun b u _ q=>k b u q) (fun _ q=>q) fun _ _ q=>q
theorem HOk.laid(x:HOk P w H h)(k:∀ b u,h.get? b=some u->h'.get? b=some u)(hp:h.objs.size<=a)(new:cT P w (upd H a o) h' a o):HOk P w (upd H a o) h':=fun b u e=>by
 have hn:=x.fresh hp
 by_cases hb:b=a
 ·subst hb;rw[aT]at e;cases e;exact new
 ·rw[aH hb]at e
  exact(x b u e).stay (fun c v _ q=>k c v q) (fun c q=>by rw[aH (aV q hn)];exact q) fun c xs q=>by rw[aH (aV q hn)];exact q
end
noncomputable def Rd(H:Hp)(a:Addr)(u:HO):Prop:=H a=some u\/∃ o,H a=some (.frz o u)
theorem Rd.of{H:Hp}{a:Addr}{u:HO}(h:H a=some u):Rd H a u:=.inl h
theorem Rd.ok{P:Program}{w:World}{H:Hp}{h:Heap}{a:Addr}{u:HO}(r:Rd H a u)(x:HOk P w H h):cT P w H h a u:=by
 rcases r with r | ⟨o,r⟩
 ·exact x a u r
 ·obtain⟨_,q⟩:=x a _ r
  exact q
noncomputable def Mut:Option HO->Prop
 | some (.lst _)=>True
 | some (.dK _)=>True
 | some (.dT _)=>True
 | some (.set _ _)=>True
 | some (.ins _ _ _)=>True
 | some (.ext _)=>True
 | _=>False
section
variable{P:Program}{w:World}{H:Hp}{h h':Heap}{x e:Addr}{o':HO}
theorem HOk.write(ok:HOk P w H h)(mu:Mut (H x))(he:e=x\/H e=some (.own x))(k:∀ b u,b≠e->h.get? b=some u->h'.get? b=some u)(heo:∃ u,h'.get? e=some u)
  (new:cT P w (upd H x o') h' x o'):HOk P w (upd H x o') h':=fun b u q=>by
 have nown:∀ c y,H c=some (.own y)->c≠x:=fun c y r z=>by subst z;rw[r]at mu;exact mu
 have ntup:∀ c xs,H c=some (.tup xs)->c≠x:=fun c xs r z=>by subst z;rw[r]at mu;exact mu
 by_cases hb:b=x
 ·subst hb;rw[aT]at q;cases q;exact new
 ·rw[aH hb]at q
  by_cases hbe:b=e
  ·have q':H b=some (.own x):=by
    rcases he with z | z
    ·exact absurd (hbe.trans z) hb
    ·rw[hbe];exact z
   rw[q]at q';cases q'
   obtain⟨v,hv⟩:=heo
   exact⟨v,by rw[hbe];exact hv⟩
  ·refine(ok b u q).stay (fun c v hc r=>k c v ?_ r) (fun c r=>by rw[aH (nown c b r)];exact r) fun c xs r=>by rw[aH (ntup c xs r)];exact r
   rcases hc with rfl | hc
   ·exact hbe
   ·rintro rfl
    rcases he with z | z
    ·exact nown c b hc z
    ·rw[hc]at z;cases z;exact hb rfl
end
structure Un(fs ex:List Addr)(H H':Hp)(h h':Heap):Prop where
 keep:∀ b o,h.get? b=some o->H b=none->b∉fs->b∉ex->h'.get? b=some o
 slot:∀ b o,h.get? b=some o->H b=none->b∈fs->b∉ex->∃ sl,h'.get? b=some {o with slots:=sl}
 free:∀ b o,h.get? b=some o->H b=none->b∉ex->H' b=none
 there:∀ b o,h.get? b=some o->b∉ex->∃ o',h'.get? b=some o'
 tups:∀ b xs,H b=some (.tup xs)->H' b=some (.tup xs)
 frzs:∀ b o u,H b=some (.frz o u)->H' b=some (.frz o u)
 tbls:∀ b ps,H b=some (.tbl ps)->∃ more,H' b=some (.tbl (ps++more))
section
variable{fs fs' ex ex':List Addr}{H H1 H2:Hp}{h h1 h2 h':Heap}{a x e:Addr}{o:HO}
theorem Un.any(u:Un fs ex H H1 h h1){b:Addr}{ob:Obj}(q:h.get? b=some ob)(n:H b=none)(hx:b∉ex):∃ sl,h1.get? b=some {ob with slots:=sl}:=by
 by_cases hb:b∈fs
 ·exact u.slot b ob q n hb hx
 ·exact⟨ob.slots,u.keep b ob q n hb hx⟩
theorem Un.trans(a:Un fs ex H H1 h h1)(b:Un fs ex H1 H2 h1 h2):Un fs ex H H2 h h2 where
 keep:=fun c ob q n hc hx=>b.keep c ob (a.keep c ob q n hc hx) (a.free c ob q n hx) hc hx
 slot:=fun c ob q n hc hx=>by
  obtain⟨sl,e1⟩:=a.slot c ob q n hc hx
  obtain⟨sl',e2⟩:=b.slot c _ e1 (a.free c ob q n hx) hc hx
  exact⟨sl',e2⟩
 free:=fun c ob q n hx=>by
  obtain⟨o',e1⟩:=a.there c ob q hx
  exact b.free c o' e1 (a.free c ob q n hx) hx
 there:=fun c ob q hx=>by
  obtain⟨o',e1⟩:=a.there c ob q hx
  exact b.there c o' e1 hx
 tups:=fun c xs q=>b.tups c xs (a.tups c xs q)
 frzs:=fun c ob xs q=>b.frzs c ob xs (a.frzs c ob xs q)
 tbls:=fun c ps q=>by
  obtain⟨m1,e1⟩:=a.tbls c ps q
  obtain⟨m2,e2⟩:=b.tbls c _ e1
  exact⟨m1++m2,by rw[e2,Array.append_assoc]⟩
theorem Un.kept(k:∀ b u,h.get? b=some u->h'.get? b=some u):Un fs ex H H h h':=
 ⟨fun b ob q _ _ _=>k b ob q,fun b ob q _ _ _=>⟨ob.slots,k b ob q⟩,fun _ _ _ n _=>n,fun b ob q _=>⟨ob,k b ob q⟩,fun _ _ q=>q,fun _ _ _ q=>q,fun _ ps q=>⟨#[],by rw[q];simp⟩⟩
theorem Un.refl:Un fs ex H H h h:=Un.kept fun _ _ q=>q
theorem Un.laid(k:∀ b u,h.get? b=some u->h'.get? b=some u)(hp:h.objs.size<=a)(hn:H a=none):Un fs ex H (upd H a o) h h' where
 keep:=fun b u q _ _ _=>k b u q
 slot:=fun b u q _ _ _=>⟨u.slots,k b u q⟩
 free:=fun b u q n _=>by rw[aH (Nat.ne_of_lt (Nat.lt_of_lt_of_le (Heap.lt_size q) hp))];exact n
 there:=fun b u q _=>⟨u,k b u q⟩
 tups:=fun b xs q=>by rw[aH (aV q hn)];exact q
 frzs:=fun b u xs q=>by rw[aH (aV q hn)];exact q
 tbls:=fun b ps q=>⟨#[],by rw[aH (aV q hn),q];simp⟩
theorem Un.write(mu:Mut (H x))(he:e=x\/H e=some (.own x))(k:∀ b u,b≠e->h.get? b=some u->h'.get? b=some u)(heo:∃ u,h'.get? e=some u):Un fs ex H (upd H x o) h h':=by
 have hx:∀ b,H b=none->b≠x:=fun b n z=>by subst z;rw[n]at mu;exact mu
 have hb:∀ b,H b=none->b≠e:=fun b n z=>by
  subst z
  rcases he with r | r
  ·exact hx b n r
  ·rw[n]at r;cases r
 have hm:∀ b u,H b=some u->¬ Mut (some u)->b≠x:=fun b u q nm z=>by subst z;rw[q]at mu;exact nm mu
 refine⟨fun b u q n _ _=>k b u (hb b n) q,fun b u q n _ _=>⟨u.slots,k b u (hb b n) q⟩,fun b u q n _=>by rw[aH (hx b n)];exact n,fun b u q _=>?_,
  fun b xs q=>by rw[aH (hm b _ q fun z=>z)];exact q,fun b u xs q=>by rw[aH (hm b _ q fun z=>z)];exact q,fun b ps q=>⟨#[],by rw[aH (hm b _ q fun z=>z),q];simp⟩⟩
 by_cases hbe:b=e
 ·subst hbe;exact heo
 ·exact⟨u,k b u hbe q⟩
theorem Un.mono(u:Un fs ex H H1 h h1)(hs:∀ b∈fs,b∈fs')(hx:∀ b∈ex,b∈ex'):Un fs' ex' H H1 h h1:=
 ⟨fun b ob q n hb he=>u.keep b ob q n (fun z=>hb (hs b z)) fun z=>he (hx b z),fun _ _ q n _ he=>u.any q n fun z=>he (hx _ z),fun b ob q n he=>u.free b ob q n fun z=>he (hx b z),fun b ob q he=>u.there b ob q fun z=>he (hx b z),u.tups,u.frzs,u.tbls⟩
end
noncomputable def trk(h:Heap)(H:Hp):List Addr:=(List.range h.objs.size).filter fun a=>(H a).isSome
noncomputable def aV0(h:Heap)(H:Hp):Heap:=PySem.W.hideAll h (trk h H)
theorem aK2(h:Heap)(H:Hp):(aV0 h H).objs.size=h.objs.size:=PySem.W.hideAll_size _ _
theorem aV1{h:Heap}{H:Hp}{b:Addr}{o:Obj}(e:h.get? b=some o)(n:H b=none):(aV0 h H).get? b=some o:=
 PySem.W.hideAll_get _ e fun hm=>by
  have q:(H b).isSome=true:=(List.mem_filter.mp hm).2
  rw[n]at q;simp at q
theorem bE5{h:Heap}{H:Hp}{b:Addr}{o:Obj}(e:(aV0 h H).get? b=some o):h.get? b=some o/\H b=none:=by
 have e':h.get? b=some o:=PySem.W.of_hideAll (trk h H) e
 refine⟨e',?_⟩
 cases q:H b with
 | none=>rfl
 | some x=>
   have hm:b∈trk h H:=List.mem_filter.mpr ⟨List.mem_range.mpr (Heap.lt_size e'),by simp[q]⟩
   have z:(aV0 h H).get? b=none:=PySem.W.hideAll_none (trk h H) hm
   rw[z]at e;cases e
noncomputable def bE6(g h:Heap)(L:Addr):List (Addr×Obj):=(List.range h.objs.size).filterMap fun a=>if a=L\/(g.get? a).isSome=true then none else(h.get? a).map fun o=>(a,o)
noncomputable def eE(g h:Heap)(L d:Addr):List (Addr×Obj):=(bE6 g h L).filter fun p=>decide (p.1≠d)
end L2
namespace L2
open PySem PySem.Spec PyProof.Rows
structure Mod(K:PySem.W.Frag)(mg:Str->Option Value)(base:Heap):Prop where
 kin:K.In base
 glob:base.Ns mainGlobals mg
 blt:∃ mb,base.Ns builtinsNs mb/\∀ x:Str,x≠"__name__"->mb x=bootBuiltins x
 nolimit:base.NoLimit
structure Cx where
 prog:Program
 w:World
 K:PySem.W.Frag
 mg:Str->Option Value
 base:Heap
 A:Around
 N:List Str
 s₀:Shared
 H₀:Hp
 env:Env
 outer:List Env
 stack:List Env
 ex:List Addr
 fn:Str->Bool
 calm:Bool
 pn:List (Addr×Obj)
 xe:Value->Shared->Prop
noncomputable def frs(l:List Env):List Addr:=l.filterMap (·.frame)
noncomputable abbrev Cx.fs(X:Cx):List Addr:=frs X.outer
noncomputable def Vis(sc:Scope)(x:Str):Prop:=sc.names.lookup x=some .local\/sc.names.lookup x=some .cell\/sc.names.lookup x=some .free
noncomputable def Loc(sc:Scope)(x:Str):Prop:=sc.names.lookup x=some .local\/sc.names.lookup x=some .cell
noncomputable def cF8(env:Env)(h:Heap)(m:Str->Option Value)(x:Str)(u:Value):Prop:=
 (env.kindOf x=some .local/\m x=some u)\/((env.kindOf x=some .cell\/env.kindOf x=some .free)/\∃ c,env.cells.lookup x=some c/\h.IsCell c (some u))
structure Cx.Ok(X:Cx):Prop where
 mod:Mod X.K X.mg X.base
 kind:X.env.scope.kind=.function
 glob:X.env.globals=mainGlobals
 blt:X.env.builtins=builtinsNs
 above:X.s₀.heap.objs.size<=X.env.locals
 inj:∀ x y c,X.env.cells.lookup x=some c->X.env.cells.lookup y=some c->x=y
 has:∀ x,(X.env.kindOf x=some .cell\/X.env.kindOf x=some .free)->∃ c,X.env.cells.lookup x=some c
 cab:∀ x c,X.fn x=true->X.env.cells.lookup x=some c->X.s₀.heap.objs.size<=c
 hd:X.calm=true->X.A.handled=none
 frames:X.A.frames=some X.stack
 stk:X.stack=X.outer\/(X.stack=X.env::X.outer/\X.env.frame=some X.env.locals)
 exf:∀ b∈X.ex,b≠X.env.locals/\∀ x c,X.env.cells.lookup x=some c->c≠b
 bs:∀ b o,X.base.get? b=some o->X.s₀.heap.get? b=some o/\X.H₀ b=none
 bsz:X.base.objs.size<=X.s₀.heap.objs.size
 noex:∀ b o,X.base.get? b=some o->b∉X.ex
 exfs:∀ b∈X.ex,b∉X.fs
 funs:X.s₀.heap.FunFrames X.base X.outer
 frf:∀ b∈X.fs,X.H₀ b=none
structure Inv(X:Cx)(pins:List (Addr×Obj))(σ:List (Option V))(H:Hp)(s:Shared):Prop where
 ok:X.Ok
 os:s.os=X.s₀.os
 bare:AllBare s.gens
 base:Un X.fs X.ex X.H₀ H X.s₀.heap s.heap
 loc:∃ m,s.heap.Ns X.env.locals m/\∀ (i:Nat) (x:Str) (v:V),X.N[i]? = some x->σ[i]? = some (some v)->Vis X.env.scope x->∃ u,dN v u/\cF8 X.env s.heap m x u
 cell:∀ x c,X.env.cells.lookup x=some c->∃ v,s.heap.IsCell c v
 free:H X.env.locals=none
 freeC:∀ x c,X.env.cells.lookup x=some c->H c=none
 pin:∀ p∈X.pn++pins,s.heap.get? p.1=some p.2/\H p.1=none/\p.1≠X.env.locals/\p.1∉X.fs/\∀ v,p.2.data≠.cell v
 hok:HOk X.prog X.w H s.heap
 len:σ.length=X.N.length
section
variable{X:Cx}{pins:List (Addr×Obj)}{σ:List (Option V)}{H H':Hp}{s:Shared}{h':Heap}
theorem Cx.Ok.nofr(ok:X.Ok){b:Addr}{o:Obj}(e:X.base.get? b=some o):b∉X.fs:=fun hb=>by
 have:=(ok.funs.mem hb).1
 rw[e]at this;cases this
theorem Inv.bs(I:Inv X pins σ H s):∀ b o,X.base.get? b=some o->s.heap.get? b=some o/\H b=none:=fun b o e=>
 ⟨I.base.keep b o (I.ok.bs b o e).1 (I.ok.bs b o e).2 (I.ok.nofr e) (I.ok.noex b o e),I.base.free b o (I.ok.bs b o e).1 (I.ok.bs b o e).2 (I.ok.noex b o e)⟩
theorem Inv.bk(I:Inv X pins σ H s):∀ b o,X.base.get? b=some o->s.heap.get? b=some o:=fun b o e=>(I.bs b o e).1
theorem Inv.mod(I:Inv X pins σ H s):Mod X.K X.mg X.base:=I.ok.mod
theorem Inv.kIn(I:Inv X pins σ H s):X.K.In s.heap:=I.ok.mod.kin.keeps I.bk
theorem Inv.nolimit(I:Inv X pins σ H s):s.heap.NoLimit:=I.ok.mod.nolimit.keeps I.bk
theorem Inv.fr(I:Inv X pins σ H s):∃ m,Fr X.base X.env.locals s.heap m:=
 let ⟨m,hn,_⟩:=I.loc
 ⟨m,hn,I.bk,Nat.le_trans I.ok.bsz I.ok.above⟩
theorem Inv.lt(I:Inv X pins σ H s):X.env.locals < s.heap.objs.size:=let ⟨_,hn,_⟩:=I.loc;hn.lt
theorem Inv.sz(I:Inv X pins σ H s):X.s₀.heap.objs.size<=s.heap.objs.size:=Nat.le_trans I.ok.above (Nat.le_of_lt I.lt)
theorem Inv.nofs(I:Inv X pins σ H s){a:Addr}(h:s.heap.objs.size<=a):a∉X.fs:=fun hb=>by
 obtain⟨_,o,ho,_⟩:=I.ok.funs.mem hb
 exact absurd (Nat.lt_of_lt_of_le (Heap.lt_size ho) (Nat.le_trans I.sz h)) (Nat.lt_irrefl _)
theorem Inv.cne(I:Inv X pins σ H s):∀ x c,X.env.cells.lookup x=some c->c≠X.env.locals:=fun x c e z=>by
 obtain⟨v,o,ho,hd⟩:=I.cell x c e
 obtain⟨m,⟨o',es,ep,ho',hd',_⟩,_⟩:=I.loc
 rw[z,ho']at ho;cases ho;rw[hd']at hd;cases hd
theorem Inv.funs(I:Inv X pins σ H s):s.heap.FunFrames X.base X.outer:=by
 have all:∀ (l:List Env),(∀ b∈frs l,b∈X.fs)->X.s₀.heap.FunFrames X.base l->s.heap.FunFrames X.base l:=by
  intro l
  induction l with
  | nil=>intro _ _;trivial
  | cons env r ih=>
    intro hs hl
    obtain⟨hk,⟨L,o,hf,hn,ho,hd⟩,hr⟩:=hl
    have hL:L∈X.fs:=hs L (by unfold frs;rw[List.filterMap_cons,hf];exact List.mem_cons_self)
    obtain⟨sl,e⟩:=I.base.slot L o ho (I.ok.frf L hL) hL fun z=>I.ok.exfs L z hL
    exact⟨hk,⟨L,_,hf,hn,e,hd⟩,ih (fun b hb=>hs b (by unfold frs;rw[List.filterMap_cons,hf];exact List.mem_cons_of_mem _ hb)) hr⟩
 exact all X.outer (fun _ hb=>hb) I.ok.funs
theorem Inv.stack(I:Inv X pins σ H s):s.heap.FunFrames X.base X.stack:=by
 rcases I.ok.stk with e | ⟨e,hf⟩
 ·rw[e];exact I.funs
 ·rw[e]
  obtain⟨m,hn,_⟩:=I.loc
  refine .cons (by rw[I.ok.kind];decide) hf hn ?_ I.funs
  exact Heap.get?_none_of_le (Nat.le_trans I.ok.bsz I.ok.above)
theorem Inv.stkSub(I:Inv X pins σ H s):∀ b∈frs X.stack,b∈X.env.locals::X.fs:=fun b hb=>by
 rcases I.ok.stk with e | ⟨e,hf⟩
 ·rw[e]at hb;exact List.mem_cons_of_mem _ hb
 ·rw[e]at hb
  unfold frs at hb
  rw[List.filterMap_cons,hf]at hb
  exact hb
theorem Inv.stkFree(I:Inv X pins σ H s):∀ b∈frs X.stack,H b=none:=fun b hb=>by
 rcases List.mem_cons.mp (I.stkSub b hb)with e | hb
 ·rw[e];exact I.free
 ·obtain⟨_,o,ho,_⟩:=I.ok.funs.mem hb
  exact I.base.free b o ho (I.ok.frf b hb) fun z=>I.ok.exfs b z hb
theorem Inv.step{g':Array GenState}{t':Nat}{d':Drawn}{ch:List Addr}(I:Inv X pins σ H s)
  (hch:∀ b∈ch,(b∈X.ex\/X.s₀.heap.objs.size<=b)/\b≠X.env.locals/\(∀ x c,X.env.cells.lookup x=some c->c≠b)/\∀ p∈X.pn++pins,p.1≠b)
  (keep:∀ b o,b≠X.env.locals->b∉X.fs->b∉ch->s.heap.get? b=some o->H b=none->h'.get? b=some o)
  (slot:∀ b o,b≠X.env.locals->b∈X.fs->b∉ch->s.heap.get? b=some o->H b=none->∃ sl,h'.get? b=some {o with slots:=sl}) (free:∀ b o,b∉ch->s.heap.get? b=some o->H b=none->H' b=none)
  (there:∀ b o,b∉ch->s.heap.get? b=some o->∃ o',h'.get? b=some o')
  (tups:∀ b xs,H b=some (.tup xs)->H' b=some (.tup xs)) (frzs:∀ b o u,H b=some (.frz o u)->H' b=some (.frz o u)) (tbls:∀ b ps,H b=some (.tbl ps)->∃ more,H' b=some (.tbl (ps++more)))
  (ns:∀ m,s.heap.Ns X.env.locals m->h'.Ns X.env.locals m) (hok:HOk X.prog X.w H' h') (hg:AllBare g') :
  Inv X pins σ H' {s with heap:=h',gens:=g',drawn:=d',toks:=t'}:=by
 have neL:∀ b o,X.s₀.heap.get? b=some o->b≠X.env.locals:=fun b o e=>Nat.ne_of_lt (Nat.lt_of_lt_of_le (Heap.lt_size e) I.ok.above)
 have neC:∀ b o,X.s₀.heap.get? b=some o->b∉X.ex->b∉ch:=fun b o e hx hb=>by
  rcases(hch b hb).1 with z | z
  ·exact hx z
  ·exact absurd (Nat.lt_of_lt_of_le (Heap.lt_size e) z) (Nat.lt_irrefl _)
 have cellK:∀ x c,X.env.cells.lookup x=some c->∀ v,s.heap.IsCell c v->h'.IsCell c v:=fun x c e v ⟨o,ho,hd⟩=>by
  have nch:c∉ch:=fun z=>(hch c z).2.2.1 x c e rfl
  by_cases hc:c∈X.fs
  ·obtain⟨sl,q⟩:=slot c o (I.cne x c e) hc nch ho (I.freeC x c e)
   exact⟨_,q,hd⟩
  ·exact⟨o,keep c o (I.cne x c e) hc nch ho (I.freeC x c e),hd⟩
 refine⟨I.ok,I.os,hg,⟨fun b o e n hb hx=>?_,fun b o e n hb hx=>?_,fun b o e n hx=>?_,fun b o e hx=>?_,fun b xs e=>tups b xs (I.base.tups b xs e),fun b o xs e=>frzs b o xs (I.base.frzs b o xs e),fun b ps e=>?_⟩,?_,fun x c e=>?_,?_,fun x c e=>?_,fun p hp=>?_,hok,I.len⟩
 ·exact keep b o (neL b o e) hb (neC b o e hx) (I.base.keep b o e n hb hx) (I.base.free b o e n hx)
 ·obtain⟨sl,e1⟩:=I.base.slot b o e n hb hx
  obtain⟨sl',e2⟩:=slot b _ (neL b o e) hb (neC b o e hx) e1 (I.base.free b o e n hx)
  exact⟨sl',e2⟩
 ·obtain⟨o',e1⟩:=I.base.there b o e hx
  exact free b o' (neC b o e hx) e1 (I.base.free b o e n hx)
 ·obtain⟨o',e1⟩:=I.base.there b o e hx
  exact there b o' (neC b o e hx) e1
 ·obtain⟨m1,e1⟩:=I.base.tbls b ps e
  obtain⟨m2,e2⟩:=tbls b _ e1
  exact⟨m1++m2,by rw[e2,Array.append_assoc]⟩
 ·obtain⟨m,hn,hl⟩:=I.loc
  refine⟨m,ns m hn,fun i x v e1 e2 e3=>?_⟩
  obtain⟨u,r,l⟩:=hl i x v e1 e2 e3
  refine⟨u,r,?_⟩
  rcases l with l | ⟨k,c,e,z⟩
  ·exact .inl l
  ·exact .inr ⟨k,c,e,cellK x c e _ z⟩
 ·obtain⟨v,z⟩:=I.cell x c e
  exact⟨v,cellK x c e v z⟩
 ·obtain⟨m,⟨o,_,_,ho,_⟩,_⟩:=I.loc
  exact free _ o (fun z=>(hch _ z).2.1 rfl) ho I.free
 ·obtain⟨v,o,ho,hd⟩:=I.cell x c e
  exact free c o (fun z=>(hch c z).2.2.1 x c e rfl) ho (I.freeC x c e)
 ·obtain⟨e,n,ne,nf,d⟩:=I.pin p hp
  have nch:p.1∉ch:=fun z=>(hch p.1 z).2.2.2 p hp rfl
  exact⟨keep p.1 p.2 ne nf nch e n,free p.1 p.2 nch e n,ne,nf,d⟩
theorem Inv.un{t':Nat}(I:Inv X pins σ H s)(u:Un X.fs [] H H' s.heap h')(hok:HOk X.prog X.w H' h'):Inv X pins σ H' {s with heap:=h',toks:=t'}:=by
 obtain⟨m,⟨o,es,ep,ho,r⟩,_⟩:=id I.loc
 obtain⟨sl,hL⟩:=u.any ho I.free (by simp)
 exact I.step (g':=s.gens) (d':=s.drawn) (ch:=[]) (fun _ z=>nomatch z) (fun b o _ hb _ e n=>u.keep b o e n hb (by simp)) (fun b o _ hb _ e n=>u.slot b o e n hb (by simp)) (fun b o _ e n=>u.free b o e n (by simp)) (fun b o _ e=>u.there b o e (by simp)) u.tups u.frzs u.tbls (fun m' hm=>by
  obtain⟨o',es',ep',ho',r'⟩:=hm
  rw[ho]at ho';cases ho'
  exact⟨_,es',ep',hL,r'⟩) hok I.bare
theorem Inv.call{g':Array GenState}{t':Nat}{d':Drawn}{ch:List Addr}(I:Inv X pins σ H s)(u:Un (frs X.stack) ch H H' s.heap h')(hok:HOk X.prog X.w H' h')(hg:AllBare g')
  (hch:∀ b∈ch,(b∈X.ex\/X.s₀.heap.objs.size<=b)/\b≠X.env.locals/\(∀ x c,X.env.cells.lookup x=some c->c≠b)/\∀ p∈X.pn++pins,p.1≠b) :
  Inv X pins σ H' {s with heap:=h',gens:=g',drawn:=d',toks:=t'}:=by
 obtain⟨m,⟨o,es,ep,ho,r⟩,_⟩:=id I.loc
 obtain⟨sl,hL⟩:=u.any ho I.free fun z=>(hch _ z).2.1 rfl
 exact I.step (ch:=ch) hch (fun b o hL hb hc e n=>u.keep b o e n (fun z=>(List.mem_cons.mp (I.stkSub b z)).elim hL hb) hc) (fun b o _ _ hc e n=>u.any e n hc) (fun b o hc e n=>u.free b o e n hc) (fun b o hc e=>u.there b o e hc) u.tups u.frzs u.tbls (fun m' hm=>by
  obtain⟨o',es',ep',ho',r'⟩:=hm
  rw[ho]at ho';cases ho'
  exact⟨_,es',ep',hL,r'⟩) hok hg
theorem Inv.turned{t':Nat}{it:Addr}(I:Inv X pins σ H s)(k:∀ b o,b≠it->s.heap.get? b=some o->h'.get? b=some o)(hn:H it=none)(hL:it≠X.env.locals)
  (h1:it∈X.ex\/X.s₀.heap.objs.size<=it) (h2:∀ x c,X.env.cells.lookup x=some c->c≠it) (h3:∀ p∈X.pn++pins,p.1≠it):Inv X pins σ H {s with heap:=h',toks:=t'}:=by
 have nit:∀ b u,H b=some u->b≠it:=fun b u e z=>by rw[z,hn]at e;cases e
 refine I.step (g':=s.gens) (d':=s.drawn) (ch:=[it]) (fun b hb=>?_) (fun b o _ _ hc e _=>k b o (fun z=>hc (by simp[z])) e) (fun b o _ _ hc e _=>⟨o.slots,k b o (fun z=>hc (by simp[z])) e⟩) (fun _ _ _ _ n=>n)
  (fun b o hc e=>⟨o,k b o (fun z=>hc (by simp[z])) e⟩) (fun _ _ e=>e) (fun _ _ _ e=>e) (fun b ps e=>⟨#[],by rw[e];simp⟩) (fun m hm=>?_) (fun b u e=>?_) I.bare
 ·have e:b=it:=by simpa using hb
  subst e
  exact⟨h1,hL,h2,h3⟩
 ·obtain⟨o,es,ep,ho,r⟩:=hm
  exact⟨o,es,ep,k _ o (Ne.symm hL) ho,r⟩
 ·refine(I.hok b u e).stay (fun c v hc q=>k c v ?_ q) (fun _ q=>q) fun _ _ q=>q
  rcases hc with z | z
  ·rw[z];exact nit b u e
  ·exact nit c _ z
theorem Inv.tok(I:Inv X pins σ H s)(t:Nat):Inv X pins σ H {s with toks:=t}:=I.un (h':=s.heap) (t':=t) Un.refl I.hok
theorem Inv.kept{t':Nat}(I:Inv X pins σ H s)(k:∀ b u,s.heap.get? b=some u->h'.get? b=some u):Inv X pins σ H {s with heap:=h',toks:=t'}:=I.un (Un.kept k) (I.hok.kept k)
theorem Inv.laid{a:Addr}{o:HO}{t':Nat}(I:Inv X pins σ H s)(k:∀ b u,s.heap.get? b=some u->h'.get? b=some u)(hp:s.heap.objs.size<=a)(new:cT X.prog X.w (upd H a o) h' a o) :
  Inv X pins σ (upd H a o) {s with heap:=h',toks:=t'}:=I.un (Un.laid k hp (I.hok.fresh hp)) (I.hok.laid k hp new)
theorem Inv.write{x e:Addr}{o:HO}{t':Nat}(I:Inv X pins σ H s)(mu:Mut (H x))(he:e=x\/H e=some (.own x))(k:∀ b u,b≠e->s.heap.get? b=some u->h'.get? b=some u)(heo:∃ u,h'.get? e=some u)
  (new:cT X.prog X.w (upd H x o) h' x o):Inv X pins σ (upd H x o) {s with heap:=h',toks:=t'}:=I.un (Un.write mu he k heo) (I.hok.write mu he k heo new)
theorem Inv.weak{σ':List (Option V)}(I:Inv X pins σ H s)(hl:σ'.length=σ.length)(w:∀ (i:Nat) v,σ'[i]? = some (some v)->σ[i]? = some (some v)):Inv X pins σ' H s:=
 ⟨I.ok,I.os,I.bare,I.base,let ⟨m,hn,hl'⟩:=I.loc;⟨m,hn,fun i x v e1 e2 e3=>hl' i x v e1 (w i v e2) e3⟩,I.cell,I.free,I.freeC,I.pin,I.hok,hl.trans I.len⟩
theorem Inv.pins_of{pins':List (Addr×Obj)}(I:Inv X pins σ H s)(h:∀ p∈pins',s.heap.get? p.1=some p.2/\H p.1=none/\p.1≠X.env.locals/\p.1∉X.fs/\∀ v,p.2.data≠.cell v):Inv X pins' σ H s:=
 ⟨I.ok,I.os,I.bare,I.base,I.loc,I.cell,I.free,I.freeC,fun p hp=>(List.mem_append.mp hp).elim (fun z=>I.pin p (List.mem_append_left _ z)) (h p),I.hok,I.len⟩
theorem aA6{N:List Str}(hN:N.Nodup){i j:Nat}{x:Str}(a:N[i]? = some x)(b:N[j]? = some x):i=j:=by
 obtain⟨h1,e1⟩:=List.getElem?_eq_some_iff.mp a
 obtain⟨h2,e2⟩:=List.getElem?_eq_some_iff.mp b
 exact(List.getElem_inj hN).mp (e1.trans e2.symm)
theorem aK3{M:Model}{A:Around}{E:Value->Shared->Prop}{i:Nat}{x:Str}{v:V}{u:Value}{Q:Unit->Shared->Prop}(I:Inv X pins σ H s)(hN:X.N.Nodup)(hi:X.N[i]? = some x)(hx:Loc X.env.scope x)(r:dN v u)
  (h:∀ s',Inv X pins (σ.set i (some v)) H s'->(∃ a,Heap.SameBut a s.heap s'.heap/\(a=X.env.locals\/X.env.cells.lookup x=some a))->Q () s') (hf:X.fn x=true\/X.env.scope.names.lookup x=some .local:=by first | exact .inl rfl | exact .inr rfl | assumption):wpAny M A (storeName X.env x u) Q E s:=by
 obtain⟨m,hn,hl⟩:=id I.loc
 have hcls:(X.env.scope.kind==.class||(X.env.scope.kind==.module&&X.env.locals != X.env.globals))=false:=by rw[I.ok.kind];rfl
 have hiσ:i < σ.length:=by rw[I.len];exact(List.getElem?_eq_some_iff.mp hi).1
 have cne:=I.cne
 have tracked:∀ {a:Addr} {h':Heap},(∃ o,s.heap.get? a=some o/\H a=none)->Heap.SameBut a s.heap h'->HOk X.prog X.w H h':=fun{a h'} ha hs b ob e=>by
  obtain⟨_,_,hfree⟩:=ha
  refine(I.hok b ob e).stay (fun c w' hc q=>(hs.2 c ?_).trans q) (fun _ q=>q) fun _ _ q=>q
  rintro rfl
  rcases hc with rfl | hc
  ·rw[hfree]at e;cases e
  ·rw[hfree]at hc;cases hc
 rcases hx with hk | hk
 ·refine wpAny_storeName_local hk hn (fun h' hn' hs=>?_) hcls
  obtain⟨oL,_,_,hoL,_⟩:=id hn
  refine h _ ⟨I.ok,I.os,I.bare,⟨fun b o e n hb hx=>?_,fun b o e n hb hx=>?_,I.base.free,fun b o e hx=>?_,I.base.tups,I.base.frzs,I.base.tbls⟩,⟨_,hn',fun j y v' e1 e2 e3=>?_⟩,fun y c e=>?_,I.free,I.freeC,fun p hp=>?_,tracked ⟨oL,hoL,I.free⟩ hs,by simpa using I.len⟩ ⟨_,hs,.inl rfl⟩
  ·exact(hs.2 b (Nat.ne_of_lt (Nat.lt_of_lt_of_le (Heap.lt_size e) I.ok.above))).trans (I.base.keep b o e n hb hx)
  ·obtain⟨sl,e1⟩:=I.base.slot b o e n hb hx
   exact⟨sl,(hs.2 b (Nat.ne_of_lt (Nat.lt_of_lt_of_le (Heap.lt_size e) I.ok.above))).trans e1⟩
  ·obtain⟨o',e1⟩:=I.base.there b o e hx
   exact⟨o',(hs.2 b (Nat.ne_of_lt (Nat.lt_of_lt_of_le (Heap.lt_size e) I.ok.above))).trans e1⟩
  ·by_cases hj:j=i
   ·subst hj
    rw[hi]at e1;cases e1
    rw[List.getElem?_set_self hiσ]at e2
    cases e2
    exact⟨u,r,.inl ⟨hk,by simp⟩⟩
   ·rw[List.getElem?_set_ne (Ne.symm hj)]at e2
    obtain⟨u',r',q⟩:=hl j y v' e1 e2 e3
    refine⟨u',r',?_⟩
    rcases q with⟨k,e⟩ | ⟨k,c,e,z⟩
    ·refine .inl ⟨k,?_⟩
     have:y≠x:=fun e=>hj (aA6 hN e1 (e ▸ hi))
     simp[this,e]
    ·exact .inr ⟨k,c,e,z.sameBut hs (cne y c e)⟩
  ·obtain⟨w',z⟩:=I.cell y c e
   exact⟨w',z.sameBut hs (cne y c e)⟩
  ·obtain⟨e,n,ne,nf,d⟩:=I.pin p hp
   exact⟨(hs.2 p.1 ne).trans e,n,ne,nf,d⟩
 ·have hfn:X.fn x=true:=by
   rcases hf with z | z
   ·exact z
   ·rw[z]at hk;cases hk
  obtain⟨c,hc⟩:=I.ok.has x (.inl hk)
  obtain⟨w',z⟩:=I.cell x c hc
  refine wpAny_storeName_cell I.ok.kind hk hc z (fun h' hc' hs=>?_)
  obtain⟨oc,hoc,hocd⟩:=id z
  refine h {s with heap:=h'} ⟨I.ok,I.os,I.bare,⟨fun b o e n hb hx=>?_,fun b o e n hb hx=>?_,I.base.free,fun b o e hx=>?_,I.base.tups,I.base.frzs,I.base.tbls⟩,⟨m,hn.sameBut hs (Ne.symm (cne x c hc)),fun j y v' e1 e2 e3=>?_⟩,fun y c' e=>?_,I.free,I.freeC,fun p hp=>?_,tracked ⟨oc,hoc,I.freeC x c hc⟩ hs,by simpa using I.len⟩ ⟨c,hs,.inr hc⟩
  ·exact(hs.2 b (Nat.ne_of_lt (Nat.lt_of_lt_of_le (Heap.lt_size e) (I.ok.cab x c hfn hc)))).trans (I.base.keep b o e n hb hx)
  ·obtain⟨sl,e1⟩:=I.base.slot b o e n hb hx
   exact⟨sl,(hs.2 b (Nat.ne_of_lt (Nat.lt_of_lt_of_le (Heap.lt_size e) (I.ok.cab x c hfn hc)))).trans e1⟩
  ·obtain⟨o',e1⟩:=I.base.there b o e hx
   exact⟨o',(hs.2 b (Nat.ne_of_lt (Nat.lt_of_lt_of_le (Heap.lt_size e) (I.ok.cab x c hfn hc)))).trans e1⟩
  ·by_cases hj:j=i
   ·subst hj
    rw[hi]at e1;cases e1
    rw[List.getElem?_set_self hiσ]at e2
    cases e2
    exact⟨u,r,.inr ⟨.inl hk,c,hc,hc'⟩⟩
   ·rw[List.getElem?_set_ne (Ne.symm hj)]at e2
    obtain⟨u',r',q⟩:=hl j y v' e1 e2 e3
    refine⟨u',r',?_⟩
    rcases q with q | ⟨k,c',e,z'⟩
    ·exact .inl q
    ·refine .inr ⟨k,c',e,z'.sameBut hs ?_⟩
     rintro rfl
     exact hj (aA6 hN e1 (I.ok.inj _ _ _ e hc ▸ hi))
  ·by_cases hcc:c'=c
   ·subst hcc;exact⟨_,hc'⟩
   ·obtain⟨w2,z2⟩:=I.cell y c' e
    exact⟨w2,z2.sameBut hs hcc⟩
  ·obtain⟨e,n,ne,nf,d⟩:=I.pin p hp
   refine⟨(hs.2 p.1 ?_).trans e,n,ne,nf,d⟩
   intro q
   rw[q,hoc]at e
   have q':oc=p.2:=Option.some.inj e
   exact d w' (by rw[← q'];exact hocd)
theorem aA7{M:Model}{A:Around}{E:Value->Shared->Prop}{i:Nat}{x:Str}{v:V}{u:Value}{Q:Unit->Shared->Prop}(I:Inv X pins σ H s)(hN:X.N.Nodup)(hi:X.N[i]? = some x)(hx:Loc X.env.scope x)(r:dN v u)
  (h:∀ s',Inv X pins (σ.set i (some v)) H s'->Q () s') (hf:X.fn x=true\/X.env.scope.names.lookup x=some .local:=by first | exact .inl rfl | exact .inr rfl | assumption):wpAny M A (storeName X.env x u) Q E s:=
 aK3 I hN hi hx r (fun s' I' _=>h s' I') hf
theorem Inv.call'{s':Shared}{ch:List Addr}(I:Inv X pins σ H s)(ho:s'.os=s.os)(u:Un (frs X.stack) ch H H' s.heap s'.heap)(hok:HOk X.prog X.w H' s'.heap)(hg:AllBare s'.gens)
  (hch:∀ b∈ch,(b∈X.ex\/X.s₀.heap.objs.size<=b)/\b≠X.env.locals/\(∀ x c,X.env.cells.lookup x=some c->c≠b)/\∀ p∈X.pn++pins,p.1≠b):Inv X pins σ H' s':=by
 obtain⟨h',g',d',t',o'⟩:=s'
 have e:o'=s.os:=ho
 subst e
 exact I.call (g':=g') (t':=t') (d':=d') u hok hg hch
end
noncomputable abbrev XK:=Value->Option Addr->Hp->Prop
noncomputable abbrev St:=List (Option V)
noncomputable abbrev VK:=V->Hp->Prop
noncomputable abbrev TE:=St->Hp->VK->Prop
noncomputable abbrev TT:=St->Hp->(Bool->Hp->Prop)->Prop
noncomputable abbrev TA:=St->Hp->(List V->Hp->Prop)->Prop
structure Ends where
 nx:St->Hp->Prop
 rt:VK
 bk:St->Hp->Prop:=fun _ _=>False
 ct:St->Hp->Prop:=fun _ _=>False
noncomputable abbrev TS:=Ends->St->Hp->Prop
noncomputable def EP(X:Cx)(pins:List (Addr×Obj))(σ:St)(Q:VK)(u:Value)(s':Shared):Prop:=∃ v H',Inv X pins σ H' s'/\dN v u/\Q v H'
noncomputable def TP(X:Cx)(pins:List (Addr×Obj))(σ:St)(Q:Bool->Hp->Prop)(b:Bool)(s':Shared):Prop:=∃ H',Inv X pins σ H' s'/\Q b H'
noncomputable def AP(X:Cx)(pins:List (Addr×Obj))(σ:St)(Q:List V->Hp->Prop)(us:List Value)(s':Shared):Prop:=∃ vs H',Inv X pins σ H' s'/\bL vs us/\Q vs H'
noncomputable def SP(X:Cx)(pins:List (Addr×Obj))(D:Ends)(f:Flow)(s':Shared):Prop:=
 match f with
 | .next=>∃ σ' H',Inv X pins σ' H' s'/\D.nx σ' H'
 | .brk=>∃ σ' H',Inv X pins σ' H' s'/\D.bk σ' H'
 | .cont=>∃ σ' H',Inv X pins σ' H' s'/\D.ct σ' H'
 | .ret u=>∃ v σ' H',Inv X pins σ' H' s'/\dN v u/\D.rt v H'
noncomputable def PE(X:Cx)(e:Expr)(t:TE):Prop:=
 ∀ (pins:List (Addr×Obj)) (s:Shared) (σ:St) (H:Hp) (Q:VK),Inv X pins σ H s->t σ H Q->wpAny (model X.prog X.w) X.A (eval e X.env) (EP X pins σ Q) X.xe s
noncomputable def PT(X:Cx)(e:Expr)(t:TT):Prop:=
 ∀ (pins:List (Addr×Obj)) (s:Shared) (σ:St) (H:Hp) (Q:Bool->Hp->Prop),Inv X pins σ H s->t σ H Q->wpAny (model X.prog X.w) X.A (isTrue e X.env (eval e X.env)) (TP X pins σ Q) X.xe s
noncomputable def PW(X:Cx)(e:Expr)(t:TT):Prop:=
 ∀ (whole:Sem Value) (pins:List (Addr×Obj)) (s:Shared) (σ:St) (H:Hp) (Q:Bool->Hp->Prop),Inv X pins σ H s->t σ H Q->wpAny (model X.prog X.w) X.A (isTrue e X.env whole) (TP X pins σ Q) X.xe s
theorem PW.pt{X:Cx}{e:Expr}{t:TT}(h:PW X e t):PT X e t:=h _
noncomputable def PA(X:Cx)(es:List Expr)(t:TA):Prop:=
 ∀ (pos:Pos) (pins:List (Addr×Obj)) (s:Shared) (σ:St) (H:Hp) (Q:List V->Hp->Prop),Inv X pins σ H s->t σ H Q->wpAny (model X.prog X.w) X.A (spliced (backTo pos (starEach es X.env))) (AP X pins σ Q) X.xe s
noncomputable def PS(X:Cx)(st:Stmt)(t:TS):Prop:=
 ∀ (pins:List (Addr×Obj)) (s:Shared) (σ:St) (H:Hp) (D:Ends),Inv X pins σ H s->t D σ H->wpAny (model X.prog X.w) X.A (exec st X.env) (SP X pins D) X.xe s
noncomputable def PSs(X:Cx)(st:List Stmt)(t:TS):Prop:=
 ∀ (pins:List (Addr×Obj)) (s:Shared) (σ:St) (H:Hp) (D:Ends),Inv X pins σ H s->t D σ H->wpAny (model X.prog X.w) X.A (execs st X.env) (SP X pins D) X.xe s
theorem thn{α:Type}{t:Sem α}{Q Q':α->Shared->Prop}{M:Model}{A:Around}{E:Value->Shared->Prop}{s:Shared}(h:wpAny M A t Q E s)(hQ:∀ a s,Q a s->Q' a s):wpAny M A t Q' E s:=wpAny_mono h hQ fun _ _ x=>x
end L2
namespace L2
open PySem PySem.Spec PyProof.Rows
section
variable{X:Cx}
theorem bin{a b:Expr}{ta tb:TE}(ha:PE X a ta)(hb:PE X b tb){pins:List (Addr×Obj)}{s:Shared}{σ:St}{H:Hp}{R:V->V->Hp->Prop}(I:Inv X pins σ H s)(h:ta σ H fun x H1=>tb σ H1 fun y H2=>R x y H2)
  {α:Type} {Q:α->Shared->Prop} {f:Value->Value->Sem α}
  (hf:∀ v u s2 x y H2,Inv X pins σ H2 s2->dN x v->dN y u->R x y H2->wpAny (model X.prog X.w) X.A (f v u) Q X.xe s2) :
  wpAny (model X.prog X.w) X.A (eval a X.env) (fun v s₁=>wpAny (model X.prog X.w) X.A (eval b X.env) (fun u s₂=>wpAny (model X.prog X.w) X.A (f v u) Q X.xe s₂) X.xe s₁) X.xe s:=by
 refine thn (ha pins s σ H _ I h) fun v s1 ⟨x,H1,I1,r1,q1⟩=>?_
 refine thn (hb pins s1 σ H1 _ I1 q1) fun u s2 ⟨y,H2,I2,r2,q2⟩=>?_
 exact hf v u s2 x y H2 I2 r1 r2 q2
noncomputable def bO7(i:Nat):TE:=fun σ H Q=>∃ v,σ[i]? = some (some v)/\Q v H
noncomputable def tC(v:V):TE:=fun _ H Q=>Q v H
theorem bO8{i:Nat}{x:Str}{pos:Pos}(hN:X.N[i]? = some x)(hv:Vis X.env.scope x)(hd:(x==("__debug__":Str))=false:=by decide)(hcd:(x==("__classdict__":Str))=false:=by decide):PE X (.Name x pos) (bO7 i):=by
 intro pins s σ H Q I h
 obtain⟨v,e,h⟩:=h
 obtain⟨m,hn,hl⟩:=I.loc
 obtain⟨u,r,l⟩:=hl i x v hN e hv
 have fin:EP X pins σ Q u s:=⟨v,H,I,r,h⟩
 rcases l with⟨hk,hm⟩ | ⟨hk,c,hc,hcell⟩
 ·exact wpAny_Name (wpAny_loadName_local I.ok.kind hk hn hm fin) hd
 ·rcases hk with hk | hk
  ·exact wpAny_Name (wpAny_loadName_cell I.ok.kind hk hc hcell fin) hd
  ·exact wpAny_Name (wpAny_loadName_free I.ok.kind hk hc hcell fin hcd) hd
theorem bO9{i j pos}:PE X (.Constant (.int i) j pos) (tC (.int i)):=fun _ _ _ H _ I h=>wpAny_Constant_int ⟨.int i,H,I.tok _,⟨_,rfl⟩,h⟩
theorem bZ3{b j pos}:PE X (.Constant (.bool b) j pos) (tC (.bl b)):=fun _ _ _ H _ I h=>Constant_bool ⟨.bl b,H,I,rfl,h⟩
theorem bB7{x j pos}:PE X (.Constant (.str x) j pos) (tC (.str x)):=fun _ _ _ H _ I h=>Calls.Constant_str ⟨.str x,H,I.tok _,⟨_,rfl⟩,h⟩
noncomputable def Gl(X:Cx)(x:Str):Prop:=X.env.kindOf x=some .globalImplicit
theorem bE7{E:Value->Shared->Prop}{pins:List (Addr×Obj)}{s:Shared}{σ:St}{H:Hp}{x:Str}{u:Value}{pos:Pos}{Q:Value->Shared->Prop}(I:Inv X pins σ H s)(hg:Gl X x)(hm:X.mg x=some u)(h:Q u s)
  (hd:(x==("__debug__":Str))=false:=by decide):wpAny (model X.prog X.w) X.A (eval (.Name x pos) X.env) Q E s:=
 Calls.Name_function_global I.ok.kind hg (Calls.loadGlobal_global (by rw[I.ok.glob];exact I.mod.glob.keeps I.bk) hm h) hd
theorem pL{E:Value->Shared->Prop}{pins:List (Addr×Obj)}{s:Shared}{σ:St}{H:Hp}{x:Str}{u:Value}{pos:Pos}{Q:Value->Shared->Prop}(I:Inv X pins σ H s)(hg:Gl X x)(hm:X.mg x=none)(hv:bootBuiltins x=some u)(h:Q u s)
  (hn:x≠"__name__":=by decide) (hd:(x==("__debug__":Str))=false:=by decide):wpAny (model X.prog X.w) X.A (eval (.Name x pos) X.env) Q E s:=by
 obtain⟨mb,h1,h2⟩:=I.mod.blt
 exact Calls.Name_function_global I.ok.kind hg (Calls.loadGlobal_builtin (by rw[I.ok.glob];exact I.mod.glob.keeps I.bk) hm (by rw[I.ok.blt];exact h1.keeps I.bk) ((h2 x hn).trans hv) h) hd
theorem jW{x:Str}{v:V}{u:Value}{pos:Pos}(hg:Gl X x)(hm:X.mg x=none)(hv:bootBuiltins x=some u)(r:dN v u)(hn:x≠"__name__":=by decide)(hd:(x==("__debug__":Str))=false:=by decide):PE X (.Name x pos) (tC v):=
 fun _ _ _ H _ I h=>pL I hg hm hv ⟨v,H,I,r,h⟩ hn hd
variable{a b:Expr}{ta tb:TE}{pos:Pos}
noncomputable def PC(X:Cx)(op:CmpOp)(a b:Expr)(t:TE):Prop:=
 ∀ (pins:List (Addr×Obj)) (s:Shared) (σ:St) (H:Hp) (Q:VK),Inv X pins σ H s->t σ H Q ->
   wpAny (model X.prog X.w) X.A (eval a X.env) (fun v s₁=>wpAny (model X.prog X.w) X.A (eval b X.env) (fun u s₂=>wpAny (model X.prog X.w) X.A (compareOp op v u) (EP X pins σ Q) X.xe s₂) X.xe s₁) X.xe s
theorem aV2(b:Expr){op:CmpOp}(h:op≠.In)(h2:op≠.NotIn):behindInMarks op b=false:=by
 have e1:(op==CmpOp.In)=false:=by cases op<;>first | rfl | exact absurd rfl h
 have e2:(op==CmpOp.NotIn)=false:=by cases op<;>first | rfl | exact absurd rfl h2
 cases b<;>simp[behindInMarks,e1,e2]
theorem dN.none_iff{x:V}{v:Value}(r:dN x v):(v==Value.none)=decide (x=.non):=by
 cases x with
 | non=>cases r;rfl
 | bl _=>cases r;rfl
 | int _=>obtain⟨t,rfl⟩:=r;rfl
 | str _=>obtain⟨t,rfl⟩:=r;rfl
 | byt _=>obtain⟨t,rfl⟩:=r;rfl
 | flt _=>obtain⟨t,rfl⟩:=r;rfl
 | ref _=>cases r;rfl
 | ty _=>cases r;rfl
noncomputable def tB(t:TE):TT:=fun σ H Q=>t σ H fun x H1=>∃ c,x=.bl c/\Q c H1
theorem cD4{op:CmpOp}{t:TE}(h:PC X op a b t)(h1:behindInMarks op b=false:=by first | exact aV2 _ (by decide) (by decide) | rfl):PT X (.Compare a [op] [b] pos) (tB t):=by
 intro pins s σ H Q I hw
 refine wpAny_isTrue_Compare1 (thn (h pins s σ H _ I hw) fun v s1 h1=>thn h1 fun u s2 h2=>thn h2 fun c s3 ⟨x,H1,I1,r1,q1⟩=>?_) h1
 obtain⟨d,rfl,q⟩:=q1
 cases r1
 exact wpAny_truthy_bool ⟨H1,I1,q⟩
theorem bP0{e:Expr}{t:TE}(h:PE X e t)(he:∀ whole,isTrue e X.env whole=(do let v ← whole;standAt e.pos;holding [v] (truthy v)):=by intro _;rfl):PT X e (tB t):=by
 intro pins s σ H Q I hw
 refine isTrue_plain (thn (h pins s σ H _ I hw) fun v s1 ⟨x,H1,I1,r1,q1⟩=>?_) (he _)
 obtain⟨d,rfl,q⟩:=q1
 cases r1
 exact wpAny_truthy_bool ⟨H1,I1,q⟩
variable{tA tB':TT}{eE:List Expr}
noncomputable def cF9(t u:TT):TT:=fun σ H Q=>t σ H fun c H1=>if c=true then u σ H1 Q else Q false H1
noncomputable def tOr(t u:TT):TT:=fun σ H Q=>t σ H fun c H1=>if c=true then Q true H1 else u σ H1 Q
noncomputable def cG0(t:TT):TT:=fun σ H Q=>t σ H fun c H1=>Q (!c) H1
theorem bE8(ha:PT X a tA):PW X (.BoolOp .And [a] pos) tA:=by
 intro wh pins s σ H Q I h
 refine isTrue_and (thn (ha pins s σ H Q I h) fun c s1 e=>?_)
 cases c with
 | true=>exact isTrue_and_nil e
 | false=>exact e
theorem bP1(ha:PT X a tA):PW X (.BoolOp .Or [a] pos) tA:=by
 intro wh pins s σ H Q I h
 refine isTrue_or (thn (ha pins s σ H Q I h) fun c s1 e=>?_)
 cases c with
 | false=>exact isTrue_or_nil e
 | true=>exact e
theorem bP2(ha:PT X a tA)(hb:PW X (.BoolOp .And (b::eE) pos) tB'):PW X (.BoolOp .And (a::b::eE) pos) (cF9 tA tB'):=by
 intro wh pins s σ H Q I h
 refine isTrue_and (thn (ha pins s σ H _ I h) fun c s1 ⟨H1,I1,q1⟩=>?_)
 cases c with
 | true=>exact hb wh pins s1 σ H1 Q I1 q1
 | false=>exact⟨H1,I1,q1⟩
theorem bZ4(ha:PT X a tA)(hb:PW X (.BoolOp .Or (b::eE) pos) tB'):PW X (.BoolOp .Or (a::b::eE) pos) (tOr tA tB'):=by
 intro wh pins s σ H Q I h
 refine isTrue_or (thn (ha pins s σ H _ I h) fun c s1 ⟨H1,I1,q1⟩=>?_)
 cases c with
 | true=>exact⟨H1,I1,q1⟩
 | false=>exact hb wh pins s1 σ H1 Q I1 q1
theorem bP3(ha:PT X a tA):PT X (.UnaryOp .Not a pos) (cG0 tA):=by
 intro pins s σ H Q I h
 exact isTrue_not (ha pins s σ H (fun c H1=>Q (!c) H1) I h)
noncomputable def bZ5(ta tb:TE):TE:=fun σ H Q=>ta σ H fun x H1=>∃ c,x=.bl c/\if c=true then tb σ H1 Q else Q (.bl false) H1
noncomputable def bZ6(ta:TE):TE:=fun σ H Q=>ta σ H fun x H1=>∃ c,x=.bl c/\Q (.bl (!c)) H1
theorem bP4{op}{t:TE}(h:PE X a t):PE X (.BoolOp op [a] pos) t:=fun pins s σ H Q I hw=>BoolOp_one (h pins s σ H Q I hw)
theorem bP5(ha:PE X a ta)(hb:PE X (.BoolOp .And (b::eE) pos) tb):PE X (.BoolOp .And (a::b::eE) pos) (bZ5 ta tb):=by
 intro pins s σ H Q I h
 refine BoolOp_and (thn (ha pins s σ H _ I h) fun v s1 ⟨x,H1,I1,r1,q1⟩=>?_)
 obtain⟨c,rfl,q1⟩:=q1
 cases r1
 refine wpAny_truthy_bool ?_
 cases c with
 | true=>exact hb pins s1 σ H1 Q I1 q1
 | false=>exact⟨.bl false,H1,I1,rfl,q1⟩
theorem bP6(ha:PE X a ta):PE X (.UnaryOp .Not a pos) (bZ6 ta):=by
 intro pins s σ H Q I h
 refine UnaryOp_ (thn (ha pins s σ H _ I h) fun v s1 ⟨x,H1,I1,r1,q1⟩=>?_)
 obtain⟨c,rfl,q1⟩:=q1
 cases r1
 exact not_of (wpAny_truthy_bool ⟨.bl (!c),H1,I1,rfl,q1⟩)
end
end L2
namespace L2
open PySem PySem.Spec PyProof.Rows
noncomputable def SqL(K:PySem.W.Frag)(H:Hp)(a:Addr)(xs:List V):Prop:=
 Rd H a (.lst xs) \/
  ∃ (o:Obj) (its:Array Value) (n:Nat),K.lookup a=some o/\o.cls=.type "list"/\o.dict=none/\o.data=.seq its n/\its.size<=sizeLine/\bL xs its.toList
noncomputable def SqT(K:PySem.W.Frag)(H:Hp)(a:Addr)(xs:List V):Prop:=
 Rd H a (.tup xs) \/
  ∃ (o:Obj) (its:Array Value) (n:Nat),K.lookup a=some o/\o.cls=.type "tuple"/\o.data=.seq its n/\its.size<=sizeLine/\bL xs its.toList
noncomputable def cG1:Value->Option V
 | .none=>some .non
 | .bool b=>some (.bl b)
 | .int i _=>some (.int i)
 | .str x _=>some (.str x)
 | .bytes b _=>some (.byt b)
 | .float b _=>some (.flt b)
 | .ref a=>some (.ref a)
 | .type n=>some (.ty n)
 | _=>none
theorem dN.abs{x:V}{u:Value}(r:dN x u):cG1 u=some x:=by
 cases x with
 | non=>cases r;rfl
 | bl _=>cases r;rfl
 | int _=>obtain⟨t,rfl⟩:=r;rfl
 | str _=>obtain⟨t,rfl⟩:=r;rfl
 | byt _=>obtain⟨t,rfl⟩:=r;rfl
 | flt _=>obtain⟨t,rfl⟩:=r;rfl
 | ref _=>cases r;rfl
 | ty _=>cases r;rfl
theorem dN.inj{x y:V}{u:Value}(r:dN x u)(q:dN y u):x=y:=Option.some.inj (r.abs.symm.trans q.abs)
theorem bL.inj:∀ {xs ys:List V} {us:List Value},bL xs us->bL ys us->xs=ys
 | _,_,_,.nil,.nil=>rfl
 | _,_,_,.cons r t,.cons r' t'=>by rw[r.inj r',bL.inj t t']
section
variable{X:Cx}{pins:List (Addr×Obj)}{σ:St}{H:Hp}{s:Shared}{a:Addr}{xs ys:List V}
theorem SqL.of{K:PySem.W.Frag}(h:H a=some (.lst xs)):SqL K H a xs:=.inl (.inl h)
theorem SqT.of{K:PySem.W.Frag}(h:H a=some (.tup xs)):SqT K H a xs:=.inl (.inl h)
theorem Inv.list(I:Inv X pins σ H s)(h:SqL X.K H a xs):∃ its:List Value,bL xs its/\PlainL s.heap a its.toArray/\xs.length<=sizeLine:=by
 rcases h with h | ⟨o,its,n,hk,hc,hd,hs,hz,r⟩
 ·obtain⟨z,its,n,r,e⟩:=h.ok I.hok
  exact⟨its,r,⟨_,n,e,rfl,rfl,rfl⟩,z⟩
 ·refine⟨its.toList,r,⟨o,n,I.kIn a o hk,hc,hd,by simpa using hs⟩,?_⟩
  have e:=r.length
  simp only[Array.length_toList]at e
  omega
theorem Inv.tuple(I:Inv X pins σ H s)(h:SqT X.K H a xs):∃ its:List Value,bL xs its/\IsTup s.heap a its.toArray/\xs.length<=sizeLine:=by
 rcases h with h | ⟨o,its,n,hk,hc,hs,hz,r⟩
 ·obtain⟨z,its,r,p,_⟩:=h.ok I.hok
  exact⟨its,r,p,z⟩
 ·refine⟨its.toList,r,⟨o,I.kIn a o hk,hc,n,by simpa using hs⟩,?_⟩
  have e:=r.length
  simp only[Array.length_toList]at e
  omega
theorem Inv.list_inj(I:Inv X pins σ H s)(h:SqL X.K H a xs)(h':SqL X.K H a ys):xs=ys:=by
 obtain⟨its,r,⟨o,n,e,_,_,d⟩,_⟩:=I.list h
 obtain⟨its',r',⟨o',n',e',_,_,d'⟩,_⟩:=I.list h'
 rw[e]at e';cases e'
 rw[d]at d'
 injection d' with d1 _
 have:its=its':=by simpa using congrArg Array.toList d1
 subst this
 exact r.inj r'
theorem Inv.tuple_inj(I:Inv X pins σ H s)(h:SqT X.K H a xs)(h':SqT X.K H a ys):xs=ys:=by
 obtain⟨its,r,⟨o,e,_,n,d⟩,_⟩:=I.tuple h
 obtain⟨its',r',⟨o',e',_,n',d'⟩,_⟩:=I.tuple h'
 rw[e]at e';cases e'
 rw[d]at d'
 injection d' with d1 _
 have:its=its':=by simpa using congrArg Array.toList d1
 subst this
 exact r.inj r'
end
noncomputable abbrev Cx.wish(X:Cx)(E:Value->Shared->Prop):Cx:={X with xe:=E}
noncomputable abbrev Cx.nox(X:Cx):Cx:=X.wish fun _ _=>False
theorem Cx.Ok.wish{X:Cx}(ok:X.Ok)(E:Value->Shared->Prop):(X.wish E).Ok:=
 ⟨ok.mod,ok.kind,ok.glob,ok.blt,ok.above,ok.inj,ok.has,ok.cab,ok.hd,ok.frames,ok.stk,ok.exf,ok.bs,ok.bsz,ok.noex,ok.exfs,ok.funs,ok.frf⟩
theorem Cx.Ok.unwish{X:Cx}{E:Value->Shared->Prop}(ok:(X.wish E).Ok):X.Ok:=
 ⟨ok.mod,ok.kind,ok.glob,ok.blt,ok.above,ok.inj,ok.has,ok.cab,ok.hd,ok.frames,ok.stk,ok.exf,ok.bs,ok.bsz,ok.noex,ok.exfs,ok.funs,ok.frf⟩
section
variable{X:Cx}{pins:List (Addr×Obj)}{σ:St}{H:Hp}{s:Shared}{E:Value->Shared->Prop}
theorem Inv.wish(I:Inv X pins σ H s)(E:Value->Shared->Prop):Inv (X.wish E) pins σ H s:=⟨I.ok.wish E,I.os,I.bare,I.base,I.loc,I.cell,I.free,I.freeC,I.pin,I.hok,I.len⟩
theorem Inv.unwish(I:Inv (X.wish E) pins σ H s):Inv X pins σ H s:=⟨I.ok.unwish,I.os,I.bare,I.base,I.loc,I.cell,I.free,I.freeC,I.pin,I.hok,I.len⟩
theorem SP.unwish{D:Ends}{f:Flow}{s':Shared}(h:SP (X.wish E) pins D f s'):SP X pins D f s':=by
 cases f with
 | next=>obtain⟨σ',H',I,q⟩:=h;exact⟨σ',H',I.unwish,q⟩
 | brk=>obtain⟨σ',H',I,q⟩:=h;exact⟨σ',H',I.unwish,q⟩
 | cont=>obtain⟨σ',H',I,q⟩:=h;exact⟨σ',H',I.unwish,q⟩
 | ret u=>obtain⟨v,σ',H',I,r,q⟩:=h;exact⟨v,σ',H',I.unwish,r,q⟩
theorem PE.nox{e:Expr}{t:TE}(h:PE X.nox e t):PE X e t:=fun pins s σ H Q I hw=>
 wpAny_mono (h pins s σ H Q (I.wish _) hw) (fun _ _ ⟨v,H',I',r,q⟩=>⟨v,H',I'.unwish,r,q⟩) fun _ _ z=>False.elim z
theorem PT.nox{e:Expr}{t:TT}(h:PT X.nox e t):PT X e t:=fun pins s σ H Q I hw=>
 wpAny_mono (h pins s σ H Q (I.wish _) hw) (fun _ _ ⟨H',I',q⟩=>⟨H',I'.unwish,q⟩) fun _ _ z=>False.elim z
theorem PSs.nox{st:List Stmt}{t:TS}(h:PSs X.nox st t):PSs X st t:=fun pins s σ H D I hw=>
 wpAny_mono (h pins s σ H D (I.wish _) hw) (fun _ _ q=>q.unwish) fun _ _ z=>False.elim z
end
section
variable{X:Cx}{st:Stmt}{eE:List Stmt}{t u:TS}{e:Expr}{te:TE}{pos:Pos}
noncomputable def bZ7:TS:=fun D σ H=>D.nx σ H
noncomputable def cD5(t u:TS):TS:=fun D σ H=>t {D with nx:=u D} σ H
theorem bE9:PSs X [] bZ7:=fun _ _ σ H _ I h=>wpAny_execs_nil ⟨σ,H,I,h⟩
theorem aV3(h1:PS X st t)(h2:PSs X eE u):PSs X (st::eE) (cD5 t u):=by
 intro pins s σ H D I h
 refine wpAny_execs_cons (thn (h1 pins s σ H {D with nx:=u D} I h) fun f s1 q=>?_)
 cases f with
 | next=>
   obtain⟨σ',H',I',q⟩:=q
   exact h2 pins s1 σ' H' D I' q
 | ret v=>exact q
 | brk=>exact q
 | cont=>exact q
theorem bF0(h1:PS X st t):PSs X [st] t:=by
 intro pins s σ H D I h
 refine wpAny_execs_cons (thn (h1 pins s σ H D I h) fun f s1 q=>?_)
 cases f with
 | next=>exact wpAny_execs_nil q
 | ret v=>exact q
 | brk=>exact q
 | cont=>exact q
theorem Inv.quiet{pins:List (Addr×Obj)}{σ:St}{H:Hp}{s:Shared}(I:Inv X pins σ H s):interactive X.env=false:=by simp[interactive,I.ok.kind]
noncomputable def bZ8(te:TE):TS:=fun D σ H=>te σ H fun _ H1=>D.nx σ H1
theorem bF1(he:PE X e te)(hs:swapsWith e none pos.line X.env=pure false:=by rfl):PS X (.Expr e pos) (bZ8 te):=by
 intro pins s σ H D I h
 exact wpAny_Expr_any (thn (he pins s σ H _ I h) fun v s1 ⟨x,H1,I1,r1,q1⟩=>⟨σ,H1,I1,q1⟩) I.quiet hs
noncomputable def cG2(te:TE):TS:=fun D σ H=>te σ H D.rt
theorem bP7(he:PE X e te):PS X (.Return (some e) pos) (cG2 te):=by
 intro pins s σ H D I h
 exact wpAny_Return_some (thn (he pins s σ H _ I h) fun v s1 ⟨x,H1,I1,r1,q1⟩=>⟨x,σ,H1,I1,r1,q1⟩)
noncomputable def cG3(c:TT)(t u:TS):TS:=fun D σ H=>c σ H fun b H1=>if b=true then t D σ H1 else u D σ H1
theorem bZ9{c:Expr}{a b:List Stmt}{tc:TT}(hc:PT X c tc)(ha:PSs X a t)(hb:PSs X b u):PS X (.If c a b pos) (cG3 tc t u):=by
 intro pins s σ H D I h
 refine wpAny_If (thn (hc pins s σ H _ I h) fun d s1 ⟨H1,I1,q1⟩=>?_)
 cases d with
 | true=>exact ha pins s1 σ H1 D I1 q1
 | false=>exact hb pins s1 σ H1 D I1 q1
end
noncomputable abbrev TG:=V->St->Hp->(St->Hp->Prop)->Prop
noncomputable abbrev TGs:=List V->St->Hp->(St->Hp->Prop)->Prop
noncomputable def PG(X:Cx)(target:Expr)(t:TG):Prop:=
 ∀ (pins:List (Addr×Obj)) (s:Shared) (σ:St) (H:Hp) (v:V) (u:Value) (Q:St->Hp->Prop),Inv X pins σ H s->dN v u->t v σ H Q ->
   wpAny (model X.prog X.w) X.A (assign target X.env u) (fun _ s'=>∃ σ' H',Inv X pins σ' H' s'/\Q σ' H') X.xe s
noncomputable def PGs(X:Cx)(ts:List Expr)(t:TGs):Prop:=
 ∀ (pins:List (Addr×Obj)) (s:Shared) (σ:St) (H:Hp) (vs:List V) (us:List Value) (Q:St->Hp->Prop),Inv X pins σ H s->bL vs us->t vs σ H Q ->
   wpAny (model X.prog X.w) X.A (assignInOrder ((assignEach ts X.env).map (·.2)) us) (fun _ s'=>∃ σ' H',Inv X pins σ' H' s'/\Q σ' H') X.xe s
noncomputable abbrev jV:=V->V->V->Hp->(Hp->Prop)->Prop
noncomputable def cD6(X:Cx)(t:jV):Prop:=
 ∀ (pins:List (Addr×Obj)) (s:Shared) (σ:St) (H:Hp) (o i v:V) (ov iv u:Value) (Q:Hp->Prop),Inv X pins σ H s->dN o ov->dN i iv->dN v u->t o i v H Q ->
   wpAny (model X.prog X.w) X.A (setItem ov iv u) (fun _ s'=>∃ H',Inv X pins σ H' s'/\Q H') X.xe s
section
variable{X:Cx}{pos:Pos}
noncomputable def aK4(i:Nat):TG:=fun v σ H Q=>Q (σ.set i (some v)) H
theorem bB{i:Nat}{x:Str}(hN:X.N.Nodup)(hi:X.N[i]? = some x)(hx:Loc X.env.scope x)(hf:X.fn x=true\/X.env.scope.names.lookup x=some .local:=by first | exact .inl rfl | exact .inr rfl | assumption):PG X (.Name x pos) (aK4 i):=by
 intro pins s σ H v u Q I r h
 exact wpAny_assign_Name (aA7 I hN hi hx r (fun s' I'=>⟨_,H,I',h⟩) hf)
noncomputable def cD7:TGs:=fun vs σ H Q=>vs=[]/\Q σ H
noncomputable def bP8(t:TG)(u:TGs):TGs:=fun vs σ H Q=>∃ v r,vs=v::r/\t v σ H fun σ' H'=>u r σ' H' Q
theorem qF:PGs X [] cD7:=by
 intro pins s σ H vs us Q I r h
 obtain⟨e,h⟩:=h
 subst e
 cases r
 exact assignInOrder_nil ⟨σ,H,I,h⟩
theorem eH{e:Expr}{es:List Expr}{t:TG}{u:TGs}(h1:PG X e t)(h2:PGs X es u)
  (hs:(assignEach (e::es) X.env).map (·.2)=assign e X.env::(assignEach es X.env).map (·.2):=by rfl):PGs X (e::es) (bP8 t u):=by
 intro pins s σ H vs us Q I r h
 obtain⟨v,vr,e1,h⟩:=h
 subst e1
 cases r with
 | cons r rr=>
   rw[hs]
   refine assignInOrder_cons (thn (h1 pins s σ H _ _ _ I r h) fun _ s1 ⟨σ1,H1,I1,q1⟩=>?_)
   exact h2 pins s1 σ1 H1 _ _ Q I1 rr q1
noncomputable def cG4(K:PySem.W.Frag)(n:Nat)(t:TGs):TG:=fun v σ H Q=>∃ a xs,v=.ref a/\SqT K H a xs/\xs.length=n/\t xs σ H Q
theorem bP9{es:List Expr}{k:Nat}{t:TGs}{n:Nat}(hc:X.calm=true)(h:PGs X es t)
  (hn:(assignEach es X.env).length=n:=by rfl) (hst:(assignEach es X.env).findIdx? (·.1)=none:=by rfl):PG X (.Tuple es k pos) (cG4 X.K n t):=by
 intro pins s σ H v u Q I r hw
 obtain⟨a,xs,e1,hq,hl,hw⟩:=hw
 subst e1
 cases r
 obtain⟨its,rv,ht,hz⟩:=I.tuple hq
 refine assign_Tuple_tuple (I.ok.hd hc) ht (by simp[hn,← hl,rv.length]) hst fun h' hx=>?_
 have I1:Inv X pins σ H {s with heap:=h'}:=I.kept (t':=s.toks) fun b o e=>hx b o (Nat.ne_of_lt (Heap.lt_size e)) e
 exact h pins _ σ H xs _ Q I1 (by simpa using rv) hw
noncomputable def cD8(to ti:TE)(t:jV):TG:=fun v σ H Q=>to σ H fun o H1=>ti σ H1 fun i H2=>t o i v H2 fun H3=>Q σ H3
theorem aK5{o i:Expr}{to ti:TE}{t:jV}(ho:PE X o to)(hi:PE X i ti)(hs:cD6 X t)
  (ha:∀ v,assign (.Subscript o i pos) X.env v=(do
   let ov ← holding [v] (eval o X.env)
   let iv ← holding [v,ov] (eval i X.env)
   standAt pos
   holding [v,ov,iv] (setItem ov iv v)
   release [v,ov,iv] []):=by intro _;rfl):PG X (.Subscript o i pos) (cD8 to ti t):=by
 intro pins s σ H v u Q I r h
 rw[ha]
 refine wpAny_bind (wpAny_holding (thn (ho pins s σ H _ I h) fun ov s1 ⟨x,H1,I1,r1,q1⟩=>?_))
 refine wpAny_bind (wpAny_holding (thn (hi pins s1 σ H1 _ I1 q1) fun iv s2 ⟨y,H2,I2,r2,q2⟩=>?_))
 refine wpAny_bind (wpAny_standAt (wpAny_bind (wpAny_holding (thn (hs pins s2 σ H2 x y v ov iv u _ I2 r1 r2 r q2) fun _ s3 ⟨H3,I3,q3⟩=>?_))))
 exact wpAny_release ⟨σ,H3,I3,q3⟩
noncomputable def bQ0(te:TE)(g:TG):TS:=fun D σ H=>te σ H fun x H1=>g x σ H1 D.nx
theorem lU{tg e:Expr}{te:TE}{g:TG}(he:PE X e te)(hg:PG X tg g)(hs:swapsWithSole [tg] e pos.line X.env=pure false:=by rfl)(hw:swappedStores [tg] e X.env=pure none:=by rfl)
  (h1:(assignEach [tg] X.env).map (·.2)=[assign tg X.env]:=by rfl):PS X (.Assign [tg] e pos) (bQ0 te g):=by
 intro pins s σ H D I h
 refine wpAny_Assign_stores (thn (he pins s σ H _ I h) fun v s1 ⟨x,H1,I1,r1,q1⟩=>?_) hs hw
 rw[h1]
 exact thn (hg pins s1 σ H1 x v _ I1 r1 q1) fun _ s2 q=>q
theorem bQ1{i:Nat}{x:Str}{e:Expr}{te:TE}{pos':Pos}(hN:X.N.Nodup)(hi:X.N[i]? = some x)(hx:Loc X.env.scope x)(he:PE X e te)(hs:swapsWith e (some (.Name x pos')) pos.line X.env=pure false:=by rfl)(hf:X.fn x=true\/X.env.scope.names.lookup x=some .local:=by first | exact .inl rfl | exact .inr rfl | assumption) :
  PS X (.Assign [.Name x pos'] e pos) (bQ0 te (aK4 i)):=by
 intro pins s σ H D I h
 refine wpAny_Assign_Name (thn (he pins s σ H _ I h) fun v s1 ⟨y,H1,I1,r1,q1⟩=>?_) hs
 exact aA7 I1 hN hi hx r1 (fun s2 I2=>⟨_,H1,I2,q1⟩) hf
end
section
variable{X:Cx}{pos:Pos}
noncomputable def aK6(c:TT)(tb:TS):TS:=fun D σ H=>∃ W:Nat->St->Hp->Prop,(∃ m,W m σ H)/\∀ m σ H,W m σ H ->
 c σ H fun b H1=>if b=true then ∃ N:St->Hp->Prop,(∀ σ' H',N σ' H'->∃ m',m' < m/\W m' σ' H')/\tb {D with nx:=N,ct:=N,bk:=D.nx} σ H1 else D.nx σ H1
theorem aV4{c:Expr}{body:List Stmt}{tc:TT}{tb:TS}(hp:PassesOwn (model X.prog X.w) X.A X.env X.xe)(hc:PT X c tc)(hb:PSs X body tb):PS X (.While c body [] pos) (aK6 tc tb):=by
 intro pins s σ H D I h
 obtain⟨W,⟨m0,w0⟩,turn⟩:=h
 refine wpAny_While (codeAny_whileLoop (fun n s'=>∃ σ' H',Inv X pins σ' H' s'/\W n σ' H') ?_ m0 ⟨σ,H,I,w0⟩)
 rintro n s1 ⟨σ1,H1,I1,w1⟩
 refine wpAny_passesOwn hp (thn (hc pins s1 σ1 H1 _ I1 (turn n σ1 H1 w1)) fun b s2 ⟨H2,I2,q2⟩=>?_)
 cases b with
 | true=>
   obtain⟨N,hN,q2⟩:=q2
   rw[if_pos rfl]
   refine wpAny_passesOwn hp (thn (hb pins s2 σ1 H2 _ I2 q2) fun f s3 q3=>?_)
   cases f with
   | next=>
     obtain⟨σ3,H3,I3,n3⟩:=q3
     obtain⟨m',hm,w3⟩:=hN σ3 H3 n3
     exact⟨m',hm,σ3,H3,I3,w3⟩
   | cont=>
     obtain⟨σ3,H3,I3,n3⟩:=q3
     obtain⟨m',hm,w3⟩:=hN σ3 H3 n3
     exact⟨m',hm,σ3,H3,I3,w3⟩
   | brk=>exact q3
   | ret v=>exact q3
 | false=>
   rw[if_neg Bool.false_ne_true]
   exact wpAny_execs_nil ⟨σ1,H2,I2,q2⟩
end
structure It where
 go:Nat->Hp->Prop
 yld:Nat->Hp->V->Hp->Prop
 stop:Nat->Hp->Prop
noncomputable def aK7(X:Cx)(pins:List (Addr×Obj))(H:Hp)(b:Addr):Prop:=
 H b=none/\b≠X.env.locals/\b∉X.fs/\(b∈X.ex\/X.s₀.heap.objs.size<=b)/\(∀ x c,X.env.cells.lookup x=some c->c≠b)/\∀ p∈X.pn++pins,p.1≠b
theorem Inv.fpOk{X:Cx}{pins:List (Addr×Obj)}{σ:St}{H H':Hp}{s:Shared}{b:Addr}(I:Inv X pins σ H s)(hb:s.heap.objs.size<=b)(hn:H' b=none):aK7 X pins H' b:=by
 refine⟨hn,Nat.ne_of_gt (Nat.lt_of_lt_of_le I.lt hb),I.nofs hb,.inr (Nat.le_trans I.sz hb),fun x c e z=>?_,fun p hp z=>?_⟩
 ·obtain⟨v,q⟩:=I.cell x c e
  exact absurd (Nat.lt_of_lt_of_le q.lt (by rw[z];exact hb)) (Nat.lt_irrefl _)
 ·exact absurd (Nat.lt_of_lt_of_le (Heap.lt_size (I.pin p hp).1) (by rw[z];exact hb)) (Nat.lt_irrefl _)
structure Turn(P:Program)(w:World)(K:PySem.W.Frag)(tg:Expr)(J:It)(fp:List Addr)(it:Addr)(tn:Nat->Heap->Prop):Prop where
 mem:it∈fp
 obj:∀ i h,tn i h->∀ b∈fp,∃ o,h.get? b=some o/\∀ v,o.data≠.cell v
 keep:∀ i h h',tn i h->(∀ b∈fp,∀ o,h.get? b=some o->h'.get? b=some o)->tn i h'
 item:∀ (X:Cx),X.prog=P->X.w=w->X.K=K->X.calm=true->∀ (i:Nat) (pins:List (Addr×Obj)) (s:Shared) (σ:St) (H:Hp) (E:Value->Shared->Prop),Inv X pins σ H s->(∀ b∈fp,aK7 X pins H b)->tn i s.heap->J.go i H ->
  wpAny (model P w) X.A (pyNext (.ref it)) (fun r s1=>∃ u,r=some u /\
   wpAny (model P w) X.A (letOwnedTupleGo tg (.ref it) u) (fun _ s2=>∃ x H',Inv X pins σ H' s2/\dN x u/\J.yld i H x H'/\tn (i+1) s2.heap/\∀ b∈fp,H' b=none) E s1) E s
 done:∀ (X:Cx),X.prog=P->X.w=w->X.K=K->X.calm=true->∀ (i:Nat) (pins:List (Addr×Obj)) (s:Shared) (σ:St) (H:Hp) (E:Value->Shared->Prop),Inv X pins σ H s->(∀ b∈fp,aK7 X pins H b)->tn i s.heap->J.stop i H ->
  wpAny (model P w) X.A (pyNext (.ref it)) (fun r s1=>r=none/\Inv X pins σ H s1) E s
 self:∀ (A:Around) (i:Nat) (s:Shared) (Q:Value->Shared->Prop) (E:Value->Shared->Prop),tn i s.heap->Q (.ref it) s->wpAny (model P w) A (pyIter (.ref it)) Q E s
noncomputable abbrev TI:=St->Hp->(It->Hp->Prop)->Prop
noncomputable def PIE(X:Cx)(pins:List (Addr×Obj))(σ:St)(tg:Expr)(R:It->Hp->Prop)(itv:Value)(s2:Shared):Prop:=
 ∃ (it:Addr) (fp:List Addr) (tn:Nat->Heap->Prop) (J:It) (H':Hp),itv=.ref it/\Inv X pins σ H' s2/\Turn X.prog X.w X.K tg J fp it tn/\tn 0 s2.heap/\(∀ b∈fp,aK7 X pins H' b)/\R J H'
noncomputable def PI(X:Cx)(tg iter:Expr)(wi:TI):Prop:=
 ∀ (pins:List (Addr×Obj)) (s:Shared) (σ:St) (H:Hp) (R:It->Hp->Prop),Inv X pins σ H s->wi σ H R ->
   wpAny (model X.prog X.w) X.A (eval iter X.env) (fun v s1=>wpAny (model X.prog X.w) X.A (pyIter v) (PIE X pins σ tg R) X.xe s1) X.xe s
theorem aK8{M:Model}{A:Around}{E:Value->Shared->Prop}{s:Shared}{tg:Expr}{it:Addr}{u:Value}{o:Obj}{n:String}{vs:Array Value}{Q:Unit->Shared->Prop}(ho:s.heap.get? it=some o)(hc:o.cls=.type n)(hd:o.data=.fields vs)
  (hn:["enumerate","zip","dict_itemiterator","dict_reverseitemiterator","odict_iterator","itertools.zip_longest","itertools.pairwise"].contains n=false) (hQ:Q () s):wpAny M A (letOwnedTupleGo tg (.ref it) u) Q E s:=by
 unfold letOwnedTupleGo
 cases tg<;>first
  | exact wpAny_pure hQ
  | (cases u<;>first
    | exact wpAny_pure hQ
    | (refine wpAny_bind (wpAny_load ho ?_)
       rw[hc,hd]
       show wpAny M A (if(["enumerate","zip","dict_itemiterator","dict_reverseitemiterator","odict_iterator","itertools.zip_longest","itertools.pairwise"].contains n&&vs[0]? == some (rawInt _))=true then _ else _) Q E s
       rw[if_neg (by intro h;rw[hn,Bool.false_and]at h;cases h)]
       exact wpAny_pure hQ))
noncomputable def Itl(K:PySem.W.Frag)(a:Addr):It:=
 ⟨fun i H=>∃ xs x,SqL K H a xs/\xs[i]? = some x,fun i H x H'=>H'=H/\∀ xs,SqL K H a xs->xs[i]? = some x,fun i H=>∃ xs,SqL K H a xs/\xs.length<=i⟩
noncomputable def Itt(K:PySem.W.Frag)(a:Addr):It:=
 ⟨fun i H=>∃ xs x,SqT K H a xs/\xs[i]? = some x,fun i H x H'=>H'=H/\∀ xs,SqT K H a xs->xs[i]? = some x,fun i H=>∃ xs,SqT K H a xs/\xs.length<=i⟩
noncomputable def Itr(lo:Int)(n:Nat):It:=⟨fun i _=>i < n,fun i H x H'=>H'=H/\x=.int (lo+i),fun i _=>n<=i⟩
theorem aK9{P:Program}{w:World}{K:PySem.W.Frag}{tg:Expr}(a it:Addr):Turn P w K tg (Itl K a) [it] it (fun i h=>h.IsListIter it a i) where
 mem:=by simp
 obj:=fun i h st b hb=>by
  have e:b=it:=by simpa using hb
  subst e
  obtain⟨o,e,c,d⟩:=st
  exact⟨o,e,fun v z=>by rw[d]at z;cases z⟩
 keep:=fun i h h' st k=>st.at fun o e=>k it (by simp) o e
 item:=by
  intro X hP hw hK hc i pins s σ H E I hf st hg
  subst hP hw hK
  obtain⟨xs,x,hq,hx⟩:=hg
  obtain⟨its,rv,p,hz⟩:=I.list hq
  obtain⟨u,hu,ru⟩:=rv.get hx
  obtain⟨f0,f1,f2,f3,f4,f5⟩:=hf it (by simp)
  refine wpAny_pyNext_list_item st p.isList (x:=u) (by simpa using hu) fun h' st' sb=>?_
  have I1:Inv X pins σ H {s with heap:=h'}:=I.turned (t':=s.toks) (fun b o hb e=>(sb.2 b hb).trans e) f0 f1 f3 f4 f5
  obtain⟨o,e,c,d⟩:=id st'
  exact⟨u,rfl,aK8 (s:={s with heap:=h'}) e c d (by decide) ⟨x,H,I1,ru,⟨rfl,fun ys hy=>by rw[I.list_inj hy hq];exact hx⟩,st',fun b hb=>(hf b hb).1⟩⟩
 done:=by
  intro X hP hw hK hc i pins s σ H E I hf st hg
  subst hP hw hK
  obtain⟨xs,hq,hx⟩:=hg
  obtain⟨its,rv,p,hz⟩:=I.list hq
  obtain⟨f0,f1,f2,f3,f4,f5⟩:=hf it (by simp)
  have hl:=rv.length
  exact wpAny_pyNext_list_end (I.ok.hd hc) st p.isList (by simp;omega) fun h' eb=>⟨rfl,I.turned (t':=s.toks) (fun b o hb e=>eb b o hb e) f0 f1 f3 f4 f5⟩
 self:=fun _ _ _ _ _ st h=>wpAny_pyIter_listiter st h
theorem aG2{P:Program}{w:World}{K:PySem.W.Frag}{tg:Expr}(a it:Addr):Turn P w K tg (Itt K a) [it] it (fun i h=>h.IsTupleIter it a i) where
 mem:=by simp
 obj:=fun i h st b hb=>by
  have e:b=it:=by simpa using hb
  subst e
  obtain⟨o,e,c,d⟩:=st
  exact⟨o,e,fun v z=>by rw[d]at z;cases z⟩
 keep:=fun i h h' st k=>st.at fun o e=>k it (by simp) o e
 item:=by
  intro X hP hw hK hc i pins s σ H E I hf st hg
  subst hP hw hK
  obtain⟨xs,x,hq,hx⟩:=hg
  obtain⟨its,rv,p,hz⟩:=I.tuple hq
  obtain⟨u,hu,ru⟩:=rv.get hx
  obtain⟨f0,f1,f2,f3,f4,f5⟩:=hf it (by simp)
  refine wpAny_pyNext_tuple_item st (show s.heap.IsTuple a its.toArray from p) (x:=u) (by simpa using hu) fun h' st' sb=>?_
  have I1:Inv X pins σ H {s with heap:=h'}:=I.turned (t':=s.toks) (fun b o hb e=>(sb.2 b hb).trans e) f0 f1 f3 f4 f5
  obtain⟨o,e,c,d⟩:=id st'
  exact⟨u,rfl,aK8 (s:={s with heap:=h'}) e c d (by decide) ⟨x,H,I1,ru,⟨rfl,fun ys hy=>by rw[I.tuple_inj hy hq];exact hx⟩,st',fun b hb=>(hf b hb).1⟩⟩
 done:=by
  intro X hP hw hK hc i pins s σ H E I hf st hg
  subst hP hw hK
  obtain⟨xs,hq,hx⟩:=hg
  obtain⟨its,rv,p,hz⟩:=I.tuple hq
  obtain⟨f0,f1,f2,f3,f4,f5⟩:=hf it (by simp)
  have hl:=rv.length
  exact wpAny_pyNext_tuple_end (I.ok.hd hc) st (show s.heap.IsTuple a its.toArray from p) (by simp;omega) fun h' eb=>⟨rfl,I.turned (t':=s.toks) (fun b o hb e=>eb b o hb e) f0 f1 f3 f4 f5⟩
 self:=fun _ _ _ _ _ st h=>wpAny_pyIter_tupleiter st h
theorem aG3{P:Program}{w:World}{K:PySem.W.Frag}{tg:Expr}(it:Addr)(lo:Int)(n:Nat):Turn P w K tg (Itr lo n) [it] it (fun i h=>IsRangeIter h it (lo+(i:Nat)*1) ((n:Int)-(i:Nat)) 1) where
 mem:=by simp
 obj:=fun i h st b hb=>by
  have e:b=it:=by simpa using hb
  subst e
  exact⟨_,st,fun v z=>by
   have z':Data.fields _=Data.cell v:=z
   cases z'⟩
 keep:=fun i h h' st k=>k it (by simp) _ st
 item:=by
  intro X hP hw hK hc i pins s σ H E I hf st hg
  subst hP hw hK
  obtain⟨f0,f1,f2,f3,f4,f5⟩:=hf it (by simp)
  have W:=Walks.range (prog:=X.prog) (w:=X.w) (I.ok.hd hc) it lo 1 n
  refine W.item i s _ _ hg st fun v h' tk hv st' kk=>?_
  obtain⟨t,rfl⟩:=hv
  have I1:Inv X pins σ H {s with heap:=h',toks:=tk}:=I.turned (fun b o hb e=>kk b o (by simpa using hb) e) f0 f1 f3 f4 f5
  refine⟨_,rfl,aK8 (s:={s with heap:=h',toks:=tk}) (n:="range_iterator") st' rfl rfl (by decide) ⟨.int (lo+i),H,I1,⟨t,?_⟩,⟨rfl,rfl⟩,st',fun b hb=>(hf b hb).1⟩⟩
  rw[Int.mul_one]
 done:=by
  intro X hP hw hK hc i pins s σ H E I hf st hg
  subst hP hw hK
  obtain⟨f0,f1,f2,f3,f4,f5⟩:=hf it (by simp)
  exact wpAny_pyNext_range_end (I.ok.hd hc) st (by have:n<=i:=hg;omega) fun h' eb=>⟨rfl,I.turned (t':=s.toks) (fun b o hb e=>eb b o hb e) f0 f1 f3 f4 f5⟩
 self:=fun _ _ _ _ _ st h=>wpAny_pyIter_rangeiter st h
end L2
namespace L2
open PySem PySem.Spec PyProof.Rows
section
variable{X:Cx}{tg:Expr}
theorem aV5{pins:List (Addr×Obj)}{σ:St}{H:Hp}{s:Shared}{R:It->Hp->Prop}{E:Value->Shared->Prop}{lo hi:Int}{t u v:Tok}{tk:Nat}(I:Inv X pins σ H s)(h1:-(2 ^ 62)<=lo)(h2:lo < 2 ^ 62)(h3:-(2 ^ 62)<=hi)(h4:hi < 2 ^ 62)
  (q:R (Itr lo (hi-lo).toNat) H):wpAny (model X.prog X.w) X.A (pyIter (.ref s.heap.objs.size)) (PIE X pins σ tg R) E {s with heap:=s.heap.push {cls:=.type "range",data:=.fields #[.int lo t,.int hi u,.int 1 v]},toks:=tk}:=by
 refine wpAny_pyIter_range (IsRange.new ..) (small_one h1 h2 h3 h4) ?_
 have I1:Inv X pins σ H {s with heap:=s.heap.push {cls:=.type "range",data:=.fields #[.int lo t,.int hi u,.int 1 v]},toks:=tk}:=I.kept fun b o e=>Heap.get?_push_of_some _ e
 refine⟨(s.heap.push {cls:=.type "range",data:=.fields #[.int lo t,.int hi u,.int 1 v]}).objs.size,[(s.heap.push {cls:=.type "range",data:=.fields #[.int lo t,.int hi u,.int 1 v]}).objs.size],_,_,H,rfl,
  I1.kept (t':=tk) fun b o e=>Heap.get?_push_of_some _ e,aG3 _ lo (hi-lo).toNat,?_,fun b hb=>?_,q⟩
 ·have e1:lo+((0:Nat):Int)*1=lo:=by simp
  have e2:(((hi-lo).toNat:Nat):Int)-((0:Nat):Int)=Builtin.Range.rangeSize lo hi 1:=by rw[rangeSize_one];split<;>omega
  show IsRangeIter _ _ (lo+((0:Nat):Int)*1) ((((hi-lo).toNat:Nat):Int)-((0:Nat):Int)) 1
  rw[e1,e2]
  exact Heap.get?_push_size _ rfl
 ·have e:b=(s.heap.push {cls:=.type "range",data:=.fields #[.int lo t,.int hi u,.int 1 v]}).objs.size:=by simpa using hb
  subst e
  exact I1.fpOk (Nat.le_refl _) (I1.hok.fresh (Nat.le_refl _))
noncomputable def bQ2(ta:TA):TI:=fun σ H R=>ta σ H fun vs H1=>∃ j:Int,vs=[.int j] /\ -(2 ^ 62)<=j/\j < 2 ^ 62/\R (Itr 0 j.toNat) H1
theorem lV{a:Expr}{ta:TA}{p pos:Pos}(hg:Gl X "range")(hm:X.mg "range"=none)(ha:PA X [a] ta)(hs:starEach [a] X.env=[(false,eval a X.env)]:=by rfl):PI X tg (.Call (.Name "range" p) [a] [] pos) (bQ2 ta):=by
 intro pins s σ H R I h
 refine Call_ (pL I hg hm boot_range (PyProof.Rows.callWith_type1 (thn (ha pos pins s σ H _ I h) fun us s1 ⟨vs,H1,I1,r1,q1⟩=>?_) hs rfl))
 obtain⟨j,e,q1,q2,q⟩:=q1
 subst e
 cases r1 with
 | cons r rr=>
   cases rr
   obtain⟨t,rfl⟩:=r
   exact call_range_1 (aV5 I1 (by omega) (by omega) q1 q2 (by simpa using q))
noncomputable def cA0(wi:TI)(g:TG)(tb:TS):TS:=fun D σ H=>wi σ H fun J H1=>∃ W:Nat->Nat->St->Hp->Prop,(∃ m,W 0 m σ H1)/\∀ i m σ H,W i m σ H ->
 (J.stop i H/\D.nx σ H)\/(J.go i H/\∃ N:St->Hp->Prop,(∀ σ' H',N σ' H'->∃ m',m' < m/\W (i+1) m' σ' H')/\∀ x H',J.yld i H x H'->g x σ H' fun σ2 H2=>tb {D with nx:=N,ct:=N,bk:=D.nx} σ2 H2)
noncomputable def lW(fp:List Addr)(h:Heap):List (Addr×Obj):=fp.filterMap fun b=>(h.get? b).map fun o=>(b,o)
theorem iG{fp:List Addr}{h:Heap}{b:Addr}{o:Obj}(hb:b∈fp)(e:h.get? b=some o):(b,o)∈lW fp h:=List.mem_filterMap.mpr ⟨b,hb,by rw[e];rfl⟩
theorem aL0{fp:List Addr}{h:Heap}{p:Addr×Obj}(hp:p∈lW fp h):p.1∈fp/\h.get? p.1=some p.2:=by
 obtain⟨b,hb,e⟩:=List.mem_filterMap.mp hp
 cases q:h.get? b with
 | none=>rw[q]at e;cases e
 | some o=>
   rw[q]at e
   have e':(b,o)=p:=Option.some.inj e
   subst e'
   exact⟨hb,q⟩
theorem Inv.pinned{pins:List (Addr×Obj)}{σ:St}{H:Hp}{s:Shared}{fp:List Addr}(I:Inv X pins σ H s)(hf:∀ b∈fp,aK7 X pins H b)(ho:∀ b∈fp,∃ o,s.heap.get? b=some o/\∀ v,o.data≠.cell v):Inv X (pins++lW fp s.heap) σ H s:=
 I.pins_of fun p hp=>(List.mem_append.mp hp).elim (fun z=>I.pin p (List.mem_append_right _ z)) fun z=>by
  obtain⟨hb,e⟩:=aL0 z
  obtain⟨f0,f1,f2,_⟩:=hf p.1 hb
  obtain⟨o,e',d⟩:=ho p.1 hb
  rw[e]at e';cases e'
  exact⟨e,f0,f1,f2,d⟩
theorem Inv.unpinned{pins pl:List (Addr×Obj)}{σ:St}{H:Hp}{s:Shared}(I:Inv X (pins++pl) σ H s):Inv X pins σ H s:=I.pins_of fun p hp=>I.pin p (List.mem_append_right _ (List.mem_append_left _ hp))
theorem aL1{iter:Expr}{body:List Stmt}{wi:TI}{g:TG}{tb:TS}{pos:Pos}(hp:PassesOwn (model X.prog X.w) X.A X.env X.xe)(hc:X.calm=true)(hi:PI X tg iter wi)(hg:PG X tg g)(hb:PSs X body tb)
  (hs:∀ x,foldedSetIterable iter X.env x=pure x:=by intro _;rfl):PS X (.For tg iter body [] pos) (cA0 wi g tb):=by
 intro pins s σ H D I h
 refine wpAny_For (thn (hi pins s σ H _ I h) fun v s1 h1=>thn h1 fun itv s2 h2=>?_) hs
 obtain⟨it,fp,tn,J,H2,e,I2,T,st2,f2,W,⟨m0,w0⟩,turn⟩:=h2
 subst e
 -- what stays true of the iterator's objects through the loop
 have stat:∀ {H':Hp},(∀ b∈fp,H' b=none)->∀ b∈fp,aK7 X pins H' b:=fun hn b hb=>⟨hn b hb,(f2 b hb).2⟩
 refine codeAny_forLoop_any (fun n s'=>∃ i σ' H',Inv X pins σ' H' s'/\tn i s'.heap/\(∀ b∈fp,H' b=none)/\W i n σ' H') ?_ m0 ⟨0,σ,H2,I2,st2,fun b hb=>(f2 b hb).1,w0⟩
 rintro n s3 ⟨i,σ3,H3,I3,st3,fr3,w3⟩
 rcases turn i n σ3 H3 w3 with⟨stop,qn⟩ | ⟨go,N,hN,step⟩
 ·refine wpAny_passesOwn hp (thn (T.done X rfl rfl rfl hc i pins s3 σ3 H3 X.xe I3 (stat fr3) st3 stop) fun r s4 ⟨hr,I4⟩=>?_)
  subst hr
  exact wpAny_execs_nil ⟨σ3,H3,I4,qn⟩
 ·refine wpAny_passesOwn hp (thn (T.item X rfl rfl rfl hc i pins s3 σ3 H3 X.xe I3 (stat fr3) st3 go) fun r s4 ⟨u,hr,h4⟩=>?_)
  subst hr
  refine wpAny_passesOwn hp (thn h4 fun _ s5 ⟨x,H5,I5,r5,y5,st5,fr5⟩=>?_)
  have I5':=I5.pinned (stat fr5) (T.obj _ _ st5)
  refine wpAny_passesOwn hp (thn (hg _ s5 σ3 H5 x u _ I5' r5 (step x H5 y5)) fun _ s6 ⟨σ6,H6,I6,q6⟩=>?_)
  refine wpAny_passesOwn hp (thn (hb _ s6 σ6 H6 _ I6 q6) fun f s7 q7=>?_)
  have again:∀ {σ7:St} {H7:Hp},Inv X (pins++lW fp s5.heap) σ7 H7 s7->N σ7 H7->∃ m,m < n/\∃ i σ' H',Inv X pins σ' H' s7/\tn i s7.heap/\(∀ b∈fp,H' b=none)/\W i m σ' H':=fun{σ7 H7} I7 n7=>by
   obtain⟨m',hm,w7⟩:=hN σ7 H7 n7
   refine⟨m',hm,i+1,σ7,H7,I7.unpinned,T.keep _ _ _ st5 fun b hb o e=>(I7.pin (b,o) (List.mem_append_right _ (List.mem_append_right _ (iG hb e)))).1,fun b hb=>?_,w7⟩
   obtain⟨o,e,d⟩:=T.obj _ _ st5 b hb
   exact(I7.pin (b,o) (List.mem_append_right _ (List.mem_append_right _ (iG hb e)))).2.1
  cases f with
  | next=>obtain⟨σ7,H7,I7,n7⟩:=q7;exact again I7 n7
  | cont=>obtain⟨σ7,H7,I7,n7⟩:=q7;exact again I7 n7
  | brk=>obtain⟨σ7,H7,I7,q7⟩:=q7;exact⟨σ7,H7,I7.unpinned,q7⟩
  | ret v=>obtain⟨x7,σ7,H7,I7,r7,q7⟩:=q7;exact⟨x7,σ7,H7,I7.unpinned,r7,q7⟩
end
end L2
namespace L2
open PySem PySem.Spec PyProof.Rows
noncomputable abbrev R2:=V->V->Hp->VK->Prop
noncomputable def OpR(X:Cx)(f:Value->Value->Sem Value)(r:R2):Prop:=
 ∀ (pins:List (Addr×Obj)) (s:Shared) (σ:St) (H:Hp) (x y:V) (v u:Value) (Q:VK),Inv X pins σ H s->dN x v->dN y u->r x y H Q ->
   wpAny (model X.prog X.w) X.A (f v u) (EP X pins σ Q) X.xe s
noncomputable def gN(X:Cx)(f:Value)(r:List V->Hp->VK->Prop):Prop:=
 ∀ (pins:List (Addr×Obj)) (s:Shared) (σ:St) (H:Hp) (xs:List V) (us:List Value) (Q:VK),Inv X pins σ H s->bL xs us->r xs H Q ->
   wpAny (model X.prog X.w) X.A (call f us) (EP X pins σ Q) X.xe s
noncomputable def tOp(r:R2)(ta tb:TE):TE:=fun σ H Q=>ta σ H fun x H1=>tb σ H1 fun y H2=>r x y H2 Q
noncomputable def tUn(r:V->Hp->VK->Prop)(ta:TE):TE:=fun σ H Q=>ta σ H fun x H1=>r x H1 Q
noncomputable def rI(C:Int->Int->Prop)(g:Int->Int->V):R2:=fun x y H Q=>∃ i j,x=.int i/\y=.int j/\C i j/\Q (g i j) H
noncomputable def rI0(g:Int->Int->V):R2:=fun x y H Q=>∃ i j,x=.int i/\y=.int j/\Q (g i j) H
section
variable{X:Cx}{a b c:Expr}{ta tb tc:TE}{pos:Pos}
theorem cA1(ha:PE X a ta)(hb:PE X b tb){pins:List (Addr×Obj)}{s:Shared}{σ:St}{H:Hp}{R:V->V->Hp->Prop}(I:Inv X pins σ H s)
  (h:ta σ H fun x H1=>tb σ H1 fun y H2=>R x y H2) {Q:Value->Shared->Prop} {f:Value->Value->Sem Value}
  (hf:∀ v u s2 x y H2,Inv X pins σ H2 s2->dN x v->dN y u->R x y H2->wpAny (model X.prog X.w) X.A (f v u) Q X.xe s2) :
  wpAny (model X.prog X.w) X.A (eval a X.env) (fun v s₁=>wpAny (model X.prog X.w) X.A (eval b X.env) (fun u s₂=>wpAny (model X.prog X.w) X.A (f v u) Q X.xe s₂) X.xe s₁) X.xe s:=by
 refine thn (ha pins s σ H _ I h) fun v s1 ⟨x,H1,I1,r1,q1⟩=>?_
 refine thn (hb pins s1 σ H1 _ I1 q1) fun u s2 ⟨y,H2,I2,r2,q2⟩=>?_
 exact hf v u s2 x y H2 I2 r1 r2 q2
theorem cA2{op:Operator}{r:R2}(ho:OpR X (binaryOp op) r)(ha:PE X a ta)(hb:PE X b tb):PE X (.BinOp a op b pos) (tOp r ta tb):=by
 intro pins s σ H Q I h
 exact wpAny_BinOp (cA1 ha hb I h fun v u s2 x y H2 I2 rx ry q=>ho pins s2 σ H2 x y v u Q I2 rx ry q)
theorem opI{f:Value->Value->Sem Value}{C:Int->Int->Prop}{g:Int->Int->Int}
  (rule:∀ (i j:Int) (t u:Tok) (s:Shared) (Q:Value->Shared->Prop) (E:Value->Shared->Prop),C i j->Q (.int (g i j) s.toks) {s with toks:=s.toks+1}->wpAny (model X.prog X.w) X.A (f (.int i t) (.int j u)) Q E s) :
  OpR X f (rI C fun i j=>.int (g i j)):=by
 intro pins s σ H x y v u Q I rx ry h
 obtain⟨i,j,rfl,rfl,hc,q⟩:=h
 obtain⟨t,rfl⟩:=rx
 obtain⟨t',rfl⟩:=ry
 exact rule i j t t' s _ _ hc ⟨.int (g i j),H,I.tok _,⟨_,rfl⟩,q⟩
theorem cG5{f:Value->Value->Sem Value}{g:Int->Int->Int}
  (rule:∀ (i j:Int) (t u:Tok) (s:Shared) (Q:Value->Shared->Prop) (E:Value->Shared->Prop),Q (.int (g i j) s.toks) {s with toks:=s.toks+1}->wpAny (model X.prog X.w) X.A (f (.int i t) (.int j u)) Q E s) :
  OpR X f (rI0 fun i j=>.int (g i j)):=by
 intro pins s σ H x y v u Q I rx ry h
 obtain⟨i,j,rfl,rfl,q⟩:=h
 obtain⟨t,rfl⟩:=rx
 obtain⟨t',rfl⟩:=ry
 exact rule i j t t' s _ _ ⟨.int (g i j),H,I.tok _,⟨_,rfl⟩,q⟩
theorem cA3{f:Value->Value->Sem Value}{g:Int->Int->Bool}
  (rule:∀ (i j:Int) (t u:Tok) (s:Shared) (Q:Value->Shared->Prop) (E:Value->Shared->Prop),Q (.bool (g i j)) s->wpAny (model X.prog X.w) X.A (f (.int i t) (.int j u)) Q E s) :
  OpR X f (rI0 fun i j=>.bl (g i j)):=by
 intro pins s σ H x y v u Q I rx ry h
 obtain⟨i,j,rfl,rfl,q⟩:=h
 obtain⟨t,rfl⟩:=rx
 obtain⟨t',rfl⟩:=ry
 exact rule i j t t' s _ _ ⟨.bl (g i j),H,I,rfl,q⟩
noncomputable def bL7(i j:Int):Prop:=0<=j/\j<=1000000/\i.natAbs < 2 ^ 64
noncomputable def bQ3(i j:Int):Prop:=(-(2 ^ 64) < i/\i < 2 ^ 64)\/(-(2 ^ 64) < j/\j < 2 ^ 64)
theorem bQ3.ok{i j:Int}(h:bQ3 i j):IntMulOk i j:=by
 rcases h with⟨h1,h2⟩ | ⟨h1,h2⟩
 ·exact .of_left (intBits_le_64 h1 h2)
 ·exact .of_right (intBits_le_64 h1 h2)
theorem bQ4:OpR X (binaryOp .Add) (rI0 fun i j=>.int (i+j)):=cG5 fun _ _ _ _ _ _ _ q=>add_int q
theorem bQ5:OpR X (binaryOp .Mult) (rI bQ3 fun i j=>.int (i*j)):=opI fun _ _ _ _ _ _ _ hc q=>mul_int q hc.ok
theorem iN:OpR X (binaryOp .Mod) (rI (fun _ j=>0 < j) fun i j=>.int (i % j)):=opI fun i j _ _ _ _ _ hc q=>by
 have h1:(0:Int) < j:=hc
 exact mod_int' (by omega) (by rw[Int.fmod_eq_emod_of_nonneg i (by omega)];exact q)
theorem bQ6:OpR X (binaryOp .Pow) (rI bL7 fun i j=>.int (i ^ j.toNat)):=opI fun _ _ _ _ _ _ _ hc q=>pow_int_small hc.1 hc.2.1 hc.2.2 q
end
noncomputable def cG6:V->V->Bool
 | .non,.non=>true | .non,.int _=>true | .int _,.non=>true | .non,.bl _=>true | .bl _,.non=>true | .non,.str _=>true | .str _,.non=>true
 | .int _,.int _=>true | .bl _,.bl _=>true | .str _,.str _=>true | .byt _,.byt _=>true
 | .int _,.str _=>true | .str _,.int _=>true | .bl _,.str _=>true | .str _,.bl _=>true
 | _,_=>false
section
variable{X:Cx}{a b c:Expr}{ta tb tc:TE}{pos:Pos}
theorem bB8{pins:List (Addr×Obj)}{σ:St}{H:Hp}{s:Shared}{Q:VK}{k k':Bool}(I:Inv X pins σ H s)(q:Q (.bl k) H)(e:k=k'):EP X pins σ Q (.bool k') s:=by
 subst e
 exact⟨.bl k,H,I,rfl,q⟩
theorem cA4:OpR X (compareOp .Lt) (rI0 fun i j=>.bl (decide (i < j))):=cA3 fun _ _ _ _ _ _ _ q=>lt_int q
theorem aG4:OpR X (compareOp .Gt) (rI0 fun i j=>.bl (decide (j < i))):=cA3 fun _ _ _ _ _ _ _ q=>gt_int q
theorem cA5:OpR X (compareOp .GtE) (rI0 fun i j=>.bl (decide (j<=i))):=cA3 fun _ _ _ _ _ _ _ q=>ge_int q
theorem aL2:OpR X (compareOp .In) (fun x y H Q=>∃ i j,x=.str i/\y=.str j/\Q (.bl (!(Builtin.Str.occurrences j i 0 j.length 1).isEmpty)) H):=by
 intro pins s σ H x y v u Q I rx ry h
 obtain⟨i,j,rfl,rfl,q⟩:=h
 obtain⟨t,rfl⟩:=rx
 obtain⟨t',rfl⟩:=ry
 exact in_str (bB8 I q rfl)
theorem rO:OpR X (compareOp .NotIn) (fun x y H Q=>∃ i j,x=.str i/\y=.str j/\Q (.bl (!(!(Builtin.Str.occurrences j i 0 j.length 1).isEmpty))) H):=by
 intro pins s σ H x y v u Q I rx ry h
 obtain⟨i,j,rfl,rfl,q⟩:=h
 obtain⟨t,rfl⟩:=rx
 obtain⟨t',rfl⟩:=ry
 exact notIn_str (bB8 I q rfl)
theorem OpR.or{f:Value->Value->Sem Value}{r r':R2}(h:OpR X f r)(h':OpR X f r'):OpR X f (fun x y H Q=>r x y H Q\/r' x y H Q):=by
 intro pins s σ H x y v u Q I rx ry q
 rcases q with q | q
 ·exact h pins s σ H x y v u Q I rx ry q
 ·exact h' pins s σ H x y v u Q I rx ry q
theorem cR(b:Expr){op:CmpOp}(h:op≠.In:=by decide)(h2:op≠.NotIn:=by decide):behindInMarks op b=false:=by
 have e1:(op==CmpOp.In)=false:=by cases op<;>first | rfl | exact absurd rfl h
 have e2:(op==CmpOp.NotIn)=false:=by cases op<;>first | rfl | exact absurd rfl h2
 cases b<;>simp[behindInMarks,e1,e2]
theorem bF2{op:CmpOp}{r:R2}(ho:OpR X (compareOp op) r)(ha:PE X a ta)(hb:PE X b tb)(hm:behindInMarks op b=false):PE X (.Compare a [op] [b] pos) (tOp r ta tb):=by
 intro pins s σ H Q I h
 exact wpAny_Compare1 (cA1 ha hb I h fun v u s2 x y H2 I2 rx ry q=>ho pins s2 σ H2 x y v u Q I2 rx ry q) hm
noncomputable def cA6(t:TE):TT:=fun σ H Q=>t σ H fun x H'=>∃ k,x=.bl k/\Q k H'
theorem bF3{op:CmpOp}{r:R2}(ho:OpR X (compareOp op) r)(ha:PE X a ta)(hb:PE X b tb)(hm:behindInMarks op b=false):PT X (.Compare a [op] [b] pos) (cA6 (tOp r ta tb)):=by
 intro pins s σ H Q I h
 refine wpAny_isTrue_Compare1 (thn (ha pins s σ H _ I h) fun v s1 ⟨x,H1,I1,r1,q1⟩=>thn (hb pins s1 σ H1 _ I1 q1) fun u s2 ⟨y,H2,I2,r2,q2⟩=>
  thn (ho pins s2 σ H2 x y v u _ I2 r1 r2 q2) fun c s3 ⟨z,H3,I3,r3,k,e,q3⟩=>?_) hm
 subst e
 cases r3
 exact wpAny_truthy_bool ⟨H3,I3,q3⟩
theorem pM:(sizeLine:Nat) < 2 ^ 63:=by rw[sizeLine_eq];decide
theorem aG5:OpR X (binaryOp .Add) (fun x y H Q=>∃ i j,x=.str i/\y=.str j/\i.length+j.length<=sizeLine/\Q (.str (i++j)) H):=by
 intro pins s σ H x y v u Q I rx ry h
 obtain⟨i,j,rfl,rfl,hz,q⟩:=h
 obtain⟨t,rfl⟩:=rx
 obtain⟨t',rfl⟩:=ry
 exact add_str (fun t' tk=>⟨.str (i++j),H,I.tok _,⟨_,rfl⟩,q⟩) hz
theorem yK{x:V}{us:List Value}(r:bL [x] us):∃ u,us=[u]/\dN x u:=by
 cases r with
 | cons r1 r2=>cases r2;exact⟨_,rfl,r1⟩
theorem cA7{x y:V}{us:List Value}(r:bL [x,y] us):∃ u w',us=[u,w']/\dN x u/\dN y w':=by
 cases r with
 | cons r1 r2=>
   cases r2 with
   | cons r3 r4=>cases r4;exact⟨_,_,rfl,r1,r3⟩
theorem rP:gN X (.type "int") (fun xs H Q=>(∃ i,xs=[.int i]/\Q (.int i) H)\/∃ k,xs=[.bl k]/\Q (.int (if k then 1 else 0)) H):=by
 intro pins s σ H xs us Q I r h
 rcases h with⟨i,rfl,q⟩ | ⟨k,rfl,q⟩
 ·obtain⟨u,rfl,t,rfl⟩:=yK r
  exact call_int_int ⟨.int i,H,I,⟨_,rfl⟩,q⟩
 ·obtain⟨u,rfl,r1⟩:=yK r
  cases r1
  exact call_int_bool ⟨.int (if k then 1 else 0),H,I.tok _,⟨_,rfl⟩,q⟩
end
end L2
namespace L2
open PySem PySem.Spec PyProof.Rows
structure ObjM(h:Heap)(x dx C:Addr)(mA:Str->Option Value):Prop where
 obj:h.get? x=some (PySem.W.instObj C dx)
 ns:h.Ns1 dx mA
 ne:dx≠x
theorem aL3{h:Heap}{dx:Addr}{mA:Str->Option Value}(n:h.Ns1 dx mA):∃ od,h.get? dx=some od/\∀ name,PySem.W.lookIn name od=some (mA name):=by
 obtain⟨o,es,ep,ho,hd,hk,_,hm⟩:=n
 refine⟨o,ho,fun name=>?_⟩
 have e:=hm name
 unfold nsFind findBy at e
 rw[← Array.find?_toList]at e
 unfold PySem.W.lookIn
 rw[hd]
 dsimp only
 split
 ·rename_i y q
  rw[q]at e
  exact congrArg some e
 ·rename_i q
  rw[q]at e
  have a:es.toList.any (·.refKey)=false:=by
   rw[List.any_eq_false]
   intro y hy
   obtain⟨z,t,hkey⟩:=hk y (Array.mem_toList_iff.mp hy)
   simp[DictEntry.refKey,hkey]
  have a':¬ es.toList.any (·.refKey)=true:=by rw[a];exact Bool.false_ne_true
  rw[if_neg a']
  exact congrArg some e
theorem ObjM.look{h:Heap}{x dx C:Addr}{mA:Str->Option Value}(I:ObjM h x dx C mA):∃ od,PySem.W.InstAt h x (PySem.W.instObj C dx) C (some od)/\∀ name,PySem.W.lookIn name od=some (mA name):=
 let ⟨od,ho,hl⟩:=aL3 I.ns
 ⟨od,⟨I.obj,rfl,rfl,ho⟩,hl⟩
section
variable{prog:Program}{w:World}{A:Around}{E:Value->Shared->Prop}{s:Shared}{K:PySem.W.Frag}{x dx C f:Addr}{mA:Str->Option Value}{name:Str}{v:Value}
end
theorem aJ4.some_of{v:V}{o:Option Value}(r:aJ4 (some v) o):∃ u,o=some u/\dN v u:=by
 cases o with
 | none=>exact(show False from r).elim
 | some u=>exact⟨u,rfl,r⟩
theorem aJ4.none_of{o:Option Value}(r:aJ4 none o):o=none:=by
 cases o with
 | none=>rfl
 | some u=>exact(show False from r).elim
section
variable{P:Program}{w:World}{H H':Hp}{h h':Heap}{a C dx:Addr}{fs fs':List (Str×V)}
theorem fE(hok:HOk P w H h)(e:H a=some (.ins C dx fs)):∃ mA,ObjM h a dx C mA/\(∀ f,aJ4 (fs.lookup f) (mA f))/\PySem.Within mA (fs.map (·.1))/\fs.length<=1000/\H dx=some (.own a):=by
 obtain⟨d,z,ne,ob,mA,n,r,q⟩:=(show cT P w H h a (.ins C dx fs)from hok a _ e)
 exact⟨mA,⟨ob,n,ne⟩,r,q,z,d⟩
end
structure Cls(K:PySem.W.Frag)(C:Addr):Prop where
 pg:PySem.W.plainGet K C Str.empty=true
 hd:PySem.W.hasDictIn K C=true
 po:PySem.W.plainOver K C=true
 sa:PySem.W.findIn K (.ref C) "__setattr__"=some (some (.builtin "object.__setattr__"))
theorem Cls.get{K:PySem.W.Frag}{C:Addr}(c:Cls K C)(f:Str):PySem.W.plainGet K C f=true:=c.pg
section
variable{X:Cx}{pins:List (Addr×Obj)}{σ:St}{H:Hp}{s:Shared}{a C dx:Addr}{fs:List (Str×V)}{f:Str}{v:V}{A:Around}{E:Value->Shared->Prop}
theorem Inv.made(I:Inv X pins σ H s):Inv X pins σ (upd (upd H s.heap.objs.size (.own (s.heap.objs.size+1))) (s.heap.objs.size+1) (.ins C s.heap.objs.size []))
  {s with heap:=(s.heap.push PySem.W.emptyDict).push (PySem.W.instObj C s.heap.objs.size)}:=by
 have e1:(s.heap.push PySem.W.emptyDict).get? s.heap.objs.size=some PySem.W.emptyDict:=Heap.get?_push_size s.heap rfl
 have e2:((s.heap.push PySem.W.emptyDict).push (PySem.W.instObj C s.heap.objs.size)).get? (s.heap.objs.size+1)=some (PySem.W.instObj C s.heap.objs.size):=by
  have:=Heap.get?_push_size (s.heap.push PySem.W.emptyDict) (o:=PySem.W.instObj C s.heap.objs.size) rfl
  rwa[Heap.size_push]at this
 have e3:(s.heap.push PySem.W.emptyDict).Ns s.heap.objs.size (fun _=>none):=⟨PySem.W.emptyDict,#[],_,e1,rfl,(fun e he=>absurd he (by simp)),fun _=>rfl⟩
 have I1:=I.laid (a:=s.heap.objs.size) (o:=.own (s.heap.objs.size+1)) (h':=s.heap.push PySem.W.emptyDict) (t':=s.toks) (fun b u q=>Heap.get?_push_of_some _ q) (Nat.le_refl _) ⟨_,e1⟩
 refine I1.laid (a:=s.heap.objs.size+1) (o:=.ins C s.heap.objs.size []) (t':=s.toks) (fun b u q=>Heap.get?_push_of_some _ q) (Nat.le_of_eq (Heap.size_push _ _)) ?_
 have ne:s.heap.objs.size≠s.heap.objs.size+1:=Nat.ne_of_lt (Nat.lt_succ_self _)
 refine⟨by rw[aH ne,aT],Nat.zero_le _,ne,e2,fun _=>none,(Heap.Ns1.of_empty e3).at fun o q=>Heap.get?_push_of_some _ q,fun _=>True.intro,fun y hy=>absurd rfl hy⟩
end
section
variable{X:Cx}{o e value:Expr}{f:Str}{pos pos' tpos:Pos}{ta tv:TE}
end
section
variable{X:Cx}{pins:List (Addr×Obj)}{σ:St}{H:Hp}{s:Shared}{A:Around}{E:Value->Shared->Prop}{Q:Value->Shared->Prop}{c:Value}{b:Bool}
inductive TyOf(K:PySem.W.Frag)(H:Hp):V->Value->Prop where
 | non:TyOf K H .non (.type "NoneType")
 | bl (x:Bool):TyOf K H (.bl x) (.type "bool")
 | int (i:Int):TyOf K H (.int i) (.type "int")
 | str (x:Str):TyOf K H (.str x) (.type "str")
 | flt (x:UInt64):TyOf K H (.flt x) (.type "float")
 | lst {a:Addr} {xs:List V} (e:H a=some (.lst xs)):TyOf K H (.ref a) (.type "list")
 | frz {a:Addr} {o:Obj} {xs:List V} (e:H a=some (.frz o (.lst xs))):TyOf K H (.ref a) (.type "list")
 | tup {a:Addr} {xs:List V} (e:H a=some (.tup xs)):TyOf K H (.ref a) (.type "tuple")
 | dK {a:Addr} {kvs:List (Key×V)} (e:H a=some (.dK kvs)):TyOf K H (.ref a) (.type "dict")
 | dT {a:Addr} {kvs:List (List Key×V)} (e:H a=some (.dT kvs)):TyOf K H (.ref a) (.type "dict")
 | ins {a C dx:Addr} {fs:List (Str×V)} (e:H a=some (.ins C dx fs)) (cl:Cls K C) (ha:PySem.W.findIn K (.ref C) "__class__"=some (some (.builtin "object.__class__")))
   (hn:PySem.W.specialIn K (.builtin "object.__class__") "__get__"=some (some (.builtin "getset_descriptor.__get__"))) (htk:PySem.W.takesIn K (.builtin "object.__class__")=some true)
   (hm:PySem.W.mroIn K C (.type "object")=some true):TyOf K H (.ref a) (.ref C)
theorem aL4{x:V}{u t:Value}(I:Inv X pins σ H s)(rx:dN x u)(ty:TyOf X.K H x t)(e:PySem.W.kitOne X.K t c=some b)(h:∀ tk,Q (.bool b) {s with toks:=tk}) :
  wpAny (model X.prog X.w) A (call (.builtin "isinstance") [u,c]) Q E s:=by
 cases ty with
 | non=>cases (show u=Value.none from rx);exact PySem.W.kia_one PySem.W.kitx_none I.kIn True.intro e (fun z=>nomatch z) h
 | bl y=>cases (show u=Value.bool y from rx);exact PySem.W.kia_one PySem.W.kitx_bool I.kIn True.intro e (fun z=>nomatch z) h
 | int i=>obtain⟨t,q⟩:=(show ∃ t,u=Value.int i t from rx);cases q;exact PySem.W.kia_one PySem.W.kitx_int I.kIn True.intro e (fun z=>nomatch z) h
 | str y=>obtain⟨t,q⟩:=(show ∃ t,u=Value.str y t from rx);cases q;exact PySem.W.kia_one PySem.W.kitx_str I.kIn True.intro e (fun z=>nomatch z) h
 | flt y=>obtain⟨t,q⟩:=(show ∃ t,u=Value.float y t from rx);cases q;exact PySem.W.kia_one PySem.W.kitx_float I.kIn True.intro e (fun z=>nomatch z) h
 | @lst a xs ea=>
   cases (show u=Value.ref a from rx)
   obtain⟨_,_,n,_,h1⟩:=(show cT X.prog X.w H s.heap a (.lst xs)from I.hok a _ ea)
   exact PySem.W.kia_one PySem.W.kitx_list I.kIn ⟨_,h1,rfl⟩ e (fun z=>nomatch z) h
 | @frz a ob xs ea=>
   cases (show u=Value.ref a from rx)
   obtain⟨_,_,_,n,_,h1⟩:=(show cT X.prog X.w H s.heap a (.frz ob (.lst xs))from I.hok a _ ea)
   exact PySem.W.kia_one PySem.W.kitx_list I.kIn ⟨_,h1,rfl⟩ e (fun z=>nomatch z) h
 | @tup a xs ea=>
   cases (show u=Value.ref a from rx)
   obtain⟨_,_,_,p,_⟩:=(show cT X.prog X.w H s.heap a (.tup xs)from I.hok a _ ea)
   obtain⟨o,h1,h2,_⟩:=p
   exact PySem.W.kia_one PySem.W.kitx_tuple I.kIn ⟨o,h1,h2⟩ e (fun z=>nomatch z) h
 | @dK a kvs ea=>
   cases (show u=Value.ref a from rx)
   obtain⟨_,_,vs,_,p⟩:=(show cT X.prog X.w H s.heap a (.dK kvs)from I.hok a _ ea)
   obtain⟨o,es,ep,h1,h2,_⟩:=p
   exact PySem.W.kia_one PySem.W.kitx_dict I.kIn ⟨o,h1,h2.1⟩ e (fun z=>nomatch z) h
 | @dT a kvs ea=>
   cases (show u=Value.ref a from rx)
   obtain⟨_,_,xs,_,o,es,ep,h1,h2,_⟩:=(show cT X.prog X.w H s.heap a (.dT kvs)from I.hok a _ ea)
   exact PySem.W.kia_one PySem.W.kitx_dict I.kIn ⟨o,h1,h2.1⟩ e (fun z=>nomatch z) h
 | @ins a C dx fs ea cl ha hn htk hm=>
   cases (show u=Value.ref a from rx)
   obtain⟨mA,O,_⟩:=fE I.hok ea
   obtain⟨od,J,_⟩:=O.look
   exact PySem.W.kia_one (PySem.W.kitx_own (cl.get _) cl.hd ha hn htk hm) I.kIn J e (fun z=>nomatch z) h
end
end L2
namespace L2
open PySem PySem.Spec PyProof.Rows
structure Room(k:Nat)(A:Around):Prop where
 hd:A.handled=none
 dp:A.depth+3*k+5 < recursionLimit
 un:A.units+16*k+200 < cLine
theorem Room.mono{j k:Nat}{A:Around}(r:Room k A)(h:j<=k):Room j A:=⟨r.hd,by have:=r.dp;omega,by have:=r.un;omega⟩
theorem Room.deeper{k:Nat}{A:Around}(r:Room (k+1) A)(env:Env):Room k (A.deeper env):=
 ⟨r.hd,by have:=r.dp;show A.depth+1+3*k+5 < _;omega,by have:=r.un;show A.units+3+16*k+200 < _;omega⟩
theorem Room.in1{k:Nat}{A:Around}(r:Room (k+1) A):Room k A.in1:=
 ⟨r.hd,by have:=r.dp;show A.depth+3*k+5 < _;omega,by have:=r.un;show A.units+1+16*k+200 < _;omega⟩
theorem aG6{A:Around}{C:Addr}{us:List Value}{kw:List (Str×Value)}:(A.under (.builtin "type.__call__" ⟨.ref C::us,kw⟩)).depth=A.depth+1:=by
 first | rfl | simp[Around.under,Code.weight,Code.isCreation,Code.isGuard,Code.isCaller,Code.frames,Code.isFrame,guardIds]
theorem aG7{A:Around}{C:Addr}{us:List Value}{kw:List (Str×Value)}:(A.under (.builtin "type.__call__" ⟨.ref C::us,kw⟩)).units=A.units+1:=by
 first | rfl | simp[Around.under,Code.cUnits,Code.frames,Code.isFrame]
theorem Room.make{k:Nat}{A:Around}(r:Room (k+1) A)(C:Addr)(us:List Value)(kw:List (Str×Value)):Room k (A.under (.builtin "type.__call__" ⟨.ref C::us,kw⟩)):=
 ⟨r.hd,by have:=r.dp;rw[aG6];omega,by have:=r.un;rw[aG7];omega⟩
theorem Room.depth{k:Nat}{A:Around}(r:Room k A):A.depth < recursionLimit:=by have:=r.dp;omega
theorem Room.units{k:Nat}{A:Around}(r:Room k A):A.units+64 < cLine:=by have:=r.un;omega
theorem Room.units0{k:Nat}{A:Around}(r:Room k A):A.units < cLine:=by have:=r.un;omega
noncomputable def cD9:TA:=fun _ H Q=>Q [] H
noncomputable def bF4(ta:TE)(tr:TA):TA:=fun σ H Q=>ta σ H fun x H1=>tr σ H1 fun xs H2=>Q (x::xs) H2
section
variable{X:Cx}{e:Expr}{es:List Expr}{te:TE}{t:TA}{pos:Pos}
theorem lX:PA X [] cD9:=fun _ _ _ _ H Q I h=>Calls.spliced_nil ⟨[],H,I,.nil,h⟩
theorem dI(ha:PE X e te)(hr:PA X es t)(hs:starEach (e::es) X.env=(false,eval e X.env)::starEach es X.env:=by rfl):PA X (e::es) (bF4 te t):=by
 intro pos pins s σ H Q I h
 rw[hs]
 show wpAny _ _ (spliced ((false,eval e X.env)::backTo pos (starEach es X.env))) _ _ s
 refine Calls.spliced_cons (thn (ha pins s σ H _ I h) fun u s1 ⟨x,H1,I1,r1,q1⟩=>?_)
 exact thn (hr pos pins s1 σ H1 _ I1 q1) fun us s2 ⟨xs,H2,I2,r2,q2⟩=>⟨x::xs,H2,I2,.cons r1 r2,q2⟩
noncomputable def cG7(t:TA):TE:=fun σ H Q=>t σ H fun xs H1=>xs.length<=sizeLine/\∀ p,H1 p=none->Q (.ref p) (upd H1 p (.tup xs))
noncomputable def cG8(t:TA):TE:=fun σ H Q=>t σ H fun xs H1=>xs.length<=sizeLine/\∀ p,H1 p=none->Q (.ref p) (upd H1 p (.lst xs))
theorem bQ7{x1}(h:PA X es t):PE X (.Tuple es x1 pos) (cG7 t):=by
 intro pins s σ H Q I hq
 refine wpAny_Tuple_spliced (thn (h pos pins s σ H _ I hq) fun us s1 ⟨xs,H1,I1,r,z,q⟩=>⟨by rw[← r.length];exact z,?_⟩)
 have hf:H1 s1.heap.objs.size=none:=I1.hok.fresh (Nat.le_refl _)
 refine⟨.ref s1.heap.objs.size,upd H1 s1.heap.objs.size (.tup xs),I1.laid (t':=s1.toks) (fun b u e=>Heap.get?_push_of_some _ e) (Nat.le_refl _) ?_,rfl,q _ hf⟩
 exact⟨z,us,r,⟨_,Heap.get?_push_size _ rfl,rfl,_,rfl⟩,⟨_,Heap.get?_push_size _ rfl,rfl⟩⟩
theorem bQ8(h:PA X es t):PE X (.List es pos) (cG8 t):=by
 intro pins s σ H Q I hq
 refine wpAny_List_spliced (thn (h pos pins s σ H _ I hq) fun us s1 ⟨xs,H1,I1,r,z,q⟩=>⟨by rw[← r.length];exact z,?_⟩)
 have hf:H1 s1.heap.objs.size=none:=I1.hok.fresh (Nat.le_refl _)
 refine⟨.ref s1.heap.objs.size,upd H1 s1.heap.objs.size (.lst xs),I1.laid (t':=s1.toks) (fun b u e=>Heap.get?_push_of_some _ e) (Nat.le_refl _) ?_,rfl,q _ hf⟩
 exact⟨z,us,0,r,Heap.get?_push_size _ rfl⟩
end
noncomputable abbrev Sp:=List V->Hp->VK->XK->Prop
noncomputable abbrev CXT:=List Env->Hp->Shared->XK->Value->Shared->Prop
structure Env0(P:Program)(w:World)(K:PySem.W.Frag)(mg:Str->Option Value)(base:Heap)(A:Around)(outer:List Env)(s:Shared)(H:Hp):Prop where
 frames:A.frames=some outer
 mod:Mod K mg base
 bs:∀ b o,base.get? b=some o->s.heap.get? b=some o/\H b=none
 bsz:base.objs.size<=s.heap.objs.size
 funs:s.heap.FunFrames base outer
 frf:∀ b∈frs outer,H b=none
 hok:HOk P w H s.heap
 bare:AllBare s.gens
noncomputable def CE(outer:List Env)(P:Program)(w:World)(H:Hp)(s:Shared)(Q:VK)(u:Value)(s':Shared):Prop:=
 ∃ v H',s'.os=s.os/\AllBare s'.gens/\Un (frs outer) [] H H' s.heap s'.heap/\HOk P w H' s'.heap/\dN v u/\Q v H'
noncomputable def CR(CX:CXT)(outer:List Env)(P:Program)(w:World)(H:Hp)(s:Shared)(Q:VK)(E:XK)(r:Result)(s':Shared):Prop:=
 match r with
 | .ok (.ret u)=>CE outer P w H s Q u s'
 | .ok _=>False
 | .error e=>CX outer H s E e s'
structure FnOk(P:Program)(w:World)(K:PySem.W.Frag)(mg:Str->Option Value)(base:Heap)(CX:CXT)(k:Nat)(f:Addr)(fd:FuncData)(ps:List Str)(sp:Sp):Prop where
 len:∀ vs H Q E,sp vs H Q E->vs.length=ps.length
 run:∀ (A:Around) (outer:List Env) (s:Shared) (H:Hp) (args:Args) (us:List Value) (vs:List V) (Q:VK) (E:XK),Room k A->Env0 P w K mg base A outer s H->BindsTo s fd args (ps.zip us)->bL vs us->sp vs H Q E ->
  codeAny (model P w) A (.call (.ref f) args) (CR CX outer P w H s Q E) s
theorem FnOk.mono{P:Program}{w:World}{K:PySem.W.Frag}{mg:Str->Option Value}{base:Heap}{CX:CXT}{j k:Nat}{f:Addr}{fd:FuncData}{ps:List Str}{sp:Sp}(F:FnOk P w K mg base CX j f fd ps sp)(h:j<=k) :
  FnOk P w K mg base CX k f fd ps sp:=⟨F.len,fun A outer s H args us vs Q E hr=>F.run A outer s H args us vs Q E (hr.mono h)⟩
theorem FnOk.imp{P:Program}{w:World}{K:PySem.W.Frag}{mg:Str->Option Value}{base:Heap}{CX:CXT}{k:Nat}{f:Addr}{fd:FuncData}{ps:List Str}{sp sp':Sp}(F:FnOk P w K mg base CX k f fd ps sp)
  (h:∀ vs H Q E,sp' vs H Q E->sp vs H Q E):FnOk P w K mg base CX k f fd ps sp':=
 ⟨fun vs H Q E q=>F.len vs H Q E (h _ _ _ _ q),fun A outer s H args us vs Q E hr he hb hv hs=>F.run A outer s H args us vs Q E hr he hb hv (h _ _ _ _ hs)⟩
theorem Env0.make{P:Program}{w:World}{K:PySem.W.Frag}{mg:Str->Option Value}{base:Heap}{A:Around}{outer:List Env}{s:Shared}{H:Hp}(e:Env0 P w K mg base A outer s H)(C:Addr)(us:List Value)(kw:List (Str×Value)) :
  Env0 P w K mg base (A.under (.builtin "type.__call__" ⟨.ref C::us,kw⟩)) outer s H:=⟨by first | exact e.frames | (simpa[Around.under,Code.envs,Code.isFrame,pushEnvs]using e.frames),e.mod,e.bs,e.bsz,e.funs,e.frf,e.hok,e.bare⟩
theorem Env0.in1{P:Program}{w:World}{K:PySem.W.Frag}{mg:Str->Option Value}{base:Heap}{A:Around}{outer:List Env}{s:Shared}{H:Hp}(e:Env0 P w K mg base A outer s H) :
  Env0 P w K mg base A.in1 outer s H:=⟨e.frames,e.mod,e.bs,e.bsz,e.funs,e.frf,e.hok,e.bare⟩
section
variable{X:Cx}{pins:List (Addr×Obj)}{σ:St}{H:Hp}{s s':Shared}
theorem Inv.env0(I:Inv X pins σ H s):Env0 X.prog X.w X.K X.mg X.base X.A X.stack s H:=
 ⟨I.ok.frames,I.ok.mod,I.bs,Nat.le_trans I.ok.bsz I.sz,I.stack,I.stkFree,I.hok,I.bare⟩
theorem Inv.after{Q:VK}{u:Value}(I:Inv X pins σ H s)(h:CE X.stack X.prog X.w H s Q u s'):EP X pins σ Q u s':=by
 obtain⟨v,H',os,bare,un,hok,r,q⟩:=h
 obtain⟨hh,g,d,t,os'⟩:=s'
 obtain rfl:os'=s.os:=os
 exact⟨v,H',I.call (h':=hh) (g':=g) (d':=d) (t':=t) (ch:=[]) un hok bare (fun b z=>absurd z (by simp)),r,q⟩
end
noncomputable def bF5(sp:Sp)(dvs:List V)(E:XK)(t:TA):TE:=fun σ H Q=>t σ H fun vs H1=>sp (vs++dvs) H1 Q E
noncomputable def eZ(K:PySem.W.Frag)(fd:FuncData)(ps:List Str)(ds:List Value):Prop:=
 ∀ (s:Shared) (us:List Value),K.In s.heap->(us++ds).length=ps.length->BindsTo s fd ⟨us,[]⟩ (ps.zip (us++ds))
theorem eZ.all{K:PySem.W.Frag}{fd:FuncData}{ps:List Str}(h:∀ us:List Value,us.length=ps.length->bindArgs fd ⟨us,[]⟩=pure (ps.zip us)):eZ K fd ps []:=fun s us _ hl=>by
 rw[List.append_nil]at hl ⊢
 exact .of_eq (h us hl)
noncomputable def aL5(CX:CXT)(X:Cx)(E:XK):Prop:=∀ (pins:List (Addr×Obj)) (σ:St) (H:Hp) (s:Shared) (e:Value) (s':Shared),Inv X pins σ H s->CX X.stack H s E e s'->X.xe e s'
section
variable{X:Cx}{CX:CXT}{k:Nat}{f C:Addr}{fd:FuncData}{ps:List Str}{sp:Sp}{dvs:List V}{ds:List Value}{E:XK}{x m:Str}{p pos apos:Pos}{e o:Expr}{es:List Expr}{ta:TE}{t:TA}
theorem bQ9{pins:List (Addr×Obj)}{σ:St}{H:Hp}{s:Shared}{Q:VK}{us:List Value}{vs:List V}(F:FnOk X.prog X.w X.K X.mg X.base CX k f fd ps sp)(hr:Room k X.A)(hb:eZ X.K fd ps ds)(hd:bL dvs ds)(hx:aL5 CX X E)
  (I:Inv X pins σ H s) (r:bL vs us) (h:sp (vs++dvs) H Q E):wpAny (model X.prog X.w) X.A (call (.ref f) us) (EP X pins σ Q) X.xe s:=by
 have r2:bL (vs++dvs) (us++ds):=r.append hd
 have hl:(us++ds).length=ps.length:=by rw[← r2.length];exact F.len _ _ _ _ h
 refine wpAny_call (codeAny_mono (F.run X.A X.stack s H ⟨us,[]⟩ (us++ds) (vs++dvs) Q E hr I.env0 (hb s us I.kIn hl) r2 h) fun r s' hq=>?_)
 cases r with
 | error e=>exact hx pins σ H s e s' I hq
 | ok fl=>
   cases fl with
   | ret u=>exact I.after hq
   | next=>exact False.elim hq
   | brk=>exact False.elim hq
   | cont=>exact False.elim hq
theorem aK(F:FnOk X.prog X.w X.K X.mg X.base CX k f fd ps sp)(hr:Room k X.A)(hg:Gl X x)(hm:X.mg x=some (.ref f))(hk:PySem.W.keepIn X.K (.ref f)=true)(hb:eZ X.K fd ps ds)(hd:bL dvs ds)(hx:aL5 CX X E)
  (ha:PA X (e::es) t) (hdb:(x==("__debug__":Str))=false:=by decide) (he:starEach (e::es) X.env=(false,eval e X.env)::starEach es X.env:=by rfl) (hpl:(backTo pos (starEach es X.env)).any (·.1)=false:=by rfl) :
  PE X (.Call (.Name x p) (e::es) [] pos) (bF5 sp dvs E t):=by
 intro pins s σ H Q I h
 refine wpAny_Call_Name_kw (bE7 I hg hm ?_ hdb)
 refine PySem.W.callWith_K (h₀:=X.base) I.ok.mod.kin hk (thn (ha pos pins s σ H _ I h) fun us s1 ⟨vs,H1,I1,r,q⟩=>⟨I1.kIn,?_⟩) he hpl
 exact bQ9 F hr hb hd hx I1 r q
end
noncomputable def PK(X:Cx)(kws:List Keyword)(t:TA):Prop:=
 ∀ (pos:Pos) (pins:List (Addr×Obj)) (s:Shared) (σ:St) (H:Hp) (Q:List V->Hp->Prop),Inv X pins σ H s->t σ H Q->wpAny (model X.prog X.w) X.A (evalAll ((backToKw pos (keywordEach kws X.env)).map (·.2))) (AP X pins σ Q) X.xe s
section
variable{X:Cx}{CX:CXT}{k:Nat}{f C:Addr}{fd:FuncData}{ps ks:List Str}{sp:Sp}{E:XK}{x m:Str}{p pos apos kpos:Pos}{e o:Expr}{es:List Expr}{kws:List Keyword}{te ta:TE}{t tk:TA}{nm:Option Str}
variable{g:List Value->List Value->List Value}{gV:List V->List V->List V}
end
structure FnScope(N P:List Str)(sc:Scope):Prop where
 kind:sc.kind=.function
 co:sc.isCoroutine=false
 gen:sc.isGenerator=false
 nd:N.Nodup
 pre:N.take P.length=P
 par:∀ x∈P,sc.names.lookup x=some .local\/sc.names.lookup x=some .cell
 nofree:∀ y∈sc.names,y.2≠.free
theorem rQ{kindOf:Str->Option NameKind}{x:Str}:∀ {binds:List (Str×Value)} {m:Str->Option Value},(∀ v,(x,v)∉binds)->bindL kindOf binds m x=m x
 | [],_,_=>rfl
 | (n,v)::r,m,h=>by
   unfold bindL
   rw[rQ fun w hw=>h w (List.mem_cons_of_mem _ hw)]
   split
   ·have:x≠n:=by rintro rfl;exact h v List.mem_cons_self
    simp[this]
   ·rfl
theorem rR{kindOf:Str->Option NameKind}{x:Str}:∀ {binds:List (Str×Value)} {m:Str->Option Value},(∀ v,(x,v)∉binds)->bindC kindOf binds m x=m x
 | [],_,_=>rfl
 | (n,v)::r,m,h=>by
   unfold bindC
   rw[rR fun w hw=>h w (List.mem_cons_of_mem _ hw)]
   split
   ·rfl
   ·have:x≠n:=by rintro rfl;exact h v List.mem_cons_self
    simp[this]
theorem rS{kindOf:Str->Option NameKind}{x:Str}{v:Value}:∀ {P:List Str} {vs:List Value} {i:Nat} {m:Str->Option Value},P.Nodup->P[i]? = some x->vs[i]? = some v->kindOf x=some .local ->
  bindL kindOf (P.zip vs) m x=some v
 | [],_,_,_,_,h,_,_=>by simp at h
 | _::_,[],_,_,_,_,h,_=>by simp at h
 | p::P,w::vs,0,m,nd,h1,h2,hk=>by
   simp at h1 h2;subst h1;subst h2
   show bindL kindOf ((p,w)::P.zip vs) m p=_
   unfold bindL
   rw[rQ fun v hv=>(List.nodup_cons.mp nd).1 (List.of_mem_zip hv).1,if_pos hk]
   simp
 | p::P,w::vs,i+1,m,nd,h1,h2,hk=>by
   show bindL kindOf ((p,w)::P.zip vs) m x=_
   unfold bindL
   exact rS (i:=i) (List.nodup_cons.mp nd).2 (by simpa using h1) (by simpa using h2) hk
theorem rT{kindOf:Str->Option NameKind}{x:Str}{v:Value}:∀ {P:List Str} {vs:List Value} {i:Nat} {m:Str->Option Value},P.Nodup->P[i]? = some x->vs[i]? = some v->kindOf x≠some .local ->
  bindC kindOf (P.zip vs) m x=some v
 | [],_,_,_,_,h,_,_=>by simp at h
 | _::_,[],_,_,_,_,h,_=>by simp at h
 | p::P,w::vs,0,m,nd,h1,h2,hk=>by
   simp at h1 h2;subst h1;subst h2
   show bindC kindOf ((p,w)::P.zip vs) m p=_
   unfold bindC
   rw[rR fun v hv=>(List.nodup_cons.mp nd).1 (List.of_mem_zip hv).1,if_neg hk]
   simp
 | p::P,w::vs,i+1,m,nd,h1,h2,hk=>by
   show bindC kindOf ((p,w)::P.zip vs) m x=_
   unfold bindC
   exact rT (i:=i) (List.nodup_cons.mp nd).2 (by simpa using h1) (by simpa using h2) hk
noncomputable def fV(N:List Str)(vs:List V):St:=vs.map some++List.replicate (N.length-vs.length) none
noncomputable def bB9(CX:CXT)(P:Program)(w:World)(K:PySem.W.Frag)(mg:Str->Option Value)(base:Heap)(N:List Str)(qual:Str)(scope:Scope)(f:Addr)(cd:Value)(A:Around)(outer:List Env)(s:Shared)(H:Hp)(E:XK):Cx where
 prog:=P
 w:=w
 K:=K
 mg:=mg
 base:=base
 A:=A.deeper (envOfC qual scope s.heap.objs.size f cd)
 N:=N
 s₀:=s
 H₀:=H
 env:=envOfC qual scope s.heap.objs.size f cd
 outer:=outer
 stack:=envOfC qual scope s.heap.objs.size f cd::outer
 ex:=[]
 calm:=true
 fn:=fun _=>true
 pn:=[]
 xe:=fun e s'=>wpAny (model P w) (A.deeper (envOfC qual scope s.heap.objs.size f cd)) (leaving (envOfC qual scope s.heap.objs.size f cd) e) (fun _ s''=>CX outer H s E e s'') (fun e' s''=>CX outer H s E e' s'') s'
theorem aA8{sc:Scope}{n:Nat}{x:Str}(h:sc.names.lookup x=some .cell):∃ c,(cellsFrom n sc.names []).lookup x=some c:=by
 have q:=PySem.W.cellsFrom_some sc.names n [] (.inl h)
 exact Option.isSome_iff_exists.mp q
theorem aL6{CX:CXT}{P:Program}{w:World}{K:PySem.W.Frag}{mg:Str->Option Value}{base:Heap}{N ps:List Str}{qual:Str}{scope:Scope}{f:Addr}{cd:Value}{A:Around}{outer:List Env}{s s1:Shared}{H:Hp}{E:XK}{us:List Value}{vs:List V}
  (S:FnScope N ps scope) (hd:A.handled=none) (e0:Env0 P w K mg base A outer s H) (hl:vs.length=ps.length) (r:bL vs us)
  (x:InCallC s s.heap.objs.size (bindL (envOfC qual scope s.heap.objs.size f cd).kindOf (ps.zip us) fun _=>none) (cellsFrom (s.heap.objs.size+1) scope.names []) (bindC (envOfC qual scope s.heap.objs.size f cd).kindOf (ps.zip us) fun _=>none) s1) :
  Inv (bB9 CX P w K mg base N qual scope f cd A outer s H E) [] (fV N vs) H s1:=by
 have hpl:ps.length<=N.length:=by have:=congrArg List.length S.pre;rw[List.length_take]at this;omega
 obtain⟨h1,tk,rfl,hk⟩:=x.done
 have noA:∀ b:Addr,b∉(bB9 CX P w K mg base N qual scope f cd A outer s H E).ex:=fun b z=>absurd (show b∈([]:List Addr)from z) (by simp)
 refine⟨⟨e0.mod,S.kind,rfl,rfl,Nat.le_refl _,fun y z c h1 h2=>?_,fun y hy=>?_,fun y c _ h=>?_,fun _=>hd,Around.frames_deeper e0.frames,.inr ⟨rfl,rfl⟩,fun b z=>absurd z (noA b),e0.bs,e0.bsz,fun b _ _=>noA b,fun b z=>absurd z (noA b),e0.funs,e0.frf⟩,
  rfl,e0.bare,Un.kept hk,⟨_,x.toInCall.ns,fun i y v h1 h2 h3=>?_⟩,fun y c h=>⟨_,x.cell y c h⟩,e0.hok.fresh (Nat.le_refl _),fun y c h=>?_,fun p hp=>absurd (show p∈([]:List (Addr×Obj))from hp) (by simp),e0.hok.kept hk,?_⟩
 ·exact name_of_addr x.apart (PySem.mem_of_lookup h1) (PySem.mem_of_lookup h2)
 ·have hy:scope.names.lookup y=some .cell\/scope.names.lookup y=some .free:=hy
  rcases hy with hy | hy
  ·exact aA8 hy
  ·exact absurd rfl (S.nofree _ (PySem.mem_of_lookup hy))
 ·exact Nat.le_of_lt (x.above y c (PySem.mem_of_lookup h))
 ·have hi:i < vs.length:=by
   unfold fV at h2
   by_cases hi:i < vs.length
   ·exact hi
   ·rw[List.getElem?_append_right (by simpa using hi)]at h2
    rw[List.getElem?_replicate]at h2
    split at h2<;>cases h2
  have ha:vs[i]? = some v:=by
   unfold fV at h2
   rw[List.getElem?_append_left (by simpa using hi),List.getElem?_map]at h2
   cases e:vs[i]? with
   | none=>rw[e]at h2;cases h2
   | some a=>rw[e]at h2;cases h2;rfl
  obtain⟨u,hu,rv⟩:=r.get ha
  have hp:ps[i]? = some y:=by
   rw[← S.pre,List.getElem?_take_of_lt (by omega)];exact h1
  have ndP:ps.Nodup:=by rw[← S.pre];exact S.nd.sublist (List.take_sublist _ _)
  refine⟨u,rv,?_⟩
  rcases S.par y (List.mem_of_getElem? hp)with k | k
  ·exact .inl ⟨k,rS ndP hp hu k⟩
  ·obtain⟨c,e⟩:=aA8 (n:=s.heap.objs.size+1) k
   refine .inr ⟨.inl k,c,e,?_⟩
   have q:=x.cell y c e
   rw[rT ndP hp hu (by show scope.names.lookup y≠_;rw[k];decide)]at q
   exact q
 ·exact e0.hok.fresh (Nat.le_of_lt (x.above y c (PySem.mem_of_lookup h)))
 ·unfold fV
  show _=N.length
  rw[List.length_append,List.length_map,List.length_replicate]
  omega
theorem bR0{CX:CXT}{P:Program}{w:World}{K:PySem.W.Frag}{mg:Str->Option Value}{base:Heap}{k:Nat}{f:Addr}{name qual:Str}{params:Arguments}{body:List Stmt}{scope:Scope}{dV kV doc pm cdv ct oc:Value}{an od:Option Addr}
  {osl:Array (Option Value)} {N ps:List Str} {sp:Sp} (lk:K.lookup f=some ⟨oc,od,.func (PySem.W.fnOf name qual params body scope dV kV doc pm an cdv ct),osl⟩) (hcd:PySem.W.codeIn K cdv qual=true) (S:FnScope N ps scope)
  (len:∀ vs H Q E,sp vs H Q E->vs.length=ps.length)
  (hbody:∀ (A:Around) (outer:List Env) (s:Shared) (H:Hp) (vs:List V) (Q:VK) (E:XK),Room k (A.deeper (envOfC qual scope s.heap.objs.size f cdv))->sp vs H Q E ->
   ∃ t,PSs (bB9 CX P w K mg base N qual scope f cdv A outer s H E) body t/\t {nx:=fun _ H'=>Q .non H',rt:=Q} (fV N vs) H) :
  FnOk P w K mg base CX (k+1) f (PySem.W.fnOf name qual params body scope dV kV doc pm an cdv ct) ps sp:=by
 refine⟨len,fun A outer s H args us vs Q E hr e0 hb r hsp=>?_⟩
 have hl:=len _ _ _ _ hsp
 have KX:K.In s.heap:=e0.mod.kin.keeps fun b o e=>(e0.bs b o e).1
 have lim:s.heap.NoLimit:=e0.mod.nolimit.keeps fun b o e=>(e0.bs b o e).1
 have hkind:∀ y∈ps.zip us,scope.names.lookup y.1=some .local\/(scope.names.lookup y.1=some .cell/\((cellsFrom (s.heap.objs.size+1) scope.names []).lookup y.1).isSome=true):=fun⟨n,v⟩ hy=>by
  rcases S.par n (List.of_mem_zip hy).1 with q | q
  ·exact .inl q
  ·exact .inr ⟨q,PySem.W.cellsFrom_some _ _ _ (.inl q)⟩
 refine codeAny_call_function hr.depth (KX _ _ lk) rfl S.co S.gen rfl (PySem.W.codeRec_of KX hcd) (hb _ _ _ _ ?_)
 refine wpAny_newFunctionEnv_cells S.kind hkind fun env he s1 x=>?_
 subst he
 refine⟨lim.keeps x.toInCall.keep,codeAny_func ?_⟩
 obtain⟨t,ht,hq⟩:=hbody A outer s H vs Q E (hr.deeper _) hsp
 have I:Inv (bB9 CX P w K mg base N qual scope f cdv A outer s H E) [] (fV N vs) H s1:=aL6 S hr.hd e0 hl r x
 refine wpAny_mono (ht [] s1 (fV N vs) H _ I hq) (fun fl s' hs=>?_) fun e s' hs=>hs
 have fin:∀ {σ':St} {H':Hp} {v:V} {u:Value},Inv (bB9 CX P w K mg base N qual scope f cdv A outer s H E) [] σ' H' s'->dN v u->Q v H'->CE outer P w H s Q u s':=
  fun{σ' H' v u} J rv q=>⟨v,H',J.os,J.bare,J.base,J.hok,rv,q⟩
 cases fl with
 | ret u=>
   obtain⟨v,σ',H',J,rv,q⟩:=hs
   exact fin J rv q
 | next=>
   obtain⟨σ',H',J,q⟩:=hs
   exact fin (v:=V.non) (u:=Value.none) J rfl q
 | brk=>
   obtain⟨_,_,_,q⟩:=hs
   exact False.elim q
 | cont=>
   obtain⟨_,_,_,q⟩:=hs
   exact False.elim q
end L2
namespace L2
open PySem PySem.Spec PyProof.Rows
section
variable{X:Cx}{x:Str}{p pos:Pos}{e:Expr}{es:List Expr}{t:TA}{id T:String}{r:List V->Hp->VK->Prop}
noncomputable def tCB(r:List V->Hp->VK->Prop)(t:TA):TE:=fun σ H Q=>t σ H fun vs H1=>r vs H1 Q
theorem aY(hc:gN X (.builtin id) r)(hg:Gl X x)(hm:X.mg x=none)(hv:bootBuiltins x=some (.builtin id))(ha:PA X (e::es) t)(hn:x≠"__name__":=by decide)(hdb:(x==("__debug__":Str))=false:=by decide)
  (he:starEach (e::es) X.env=(false,eval e X.env)::starEach es X.env:=by rfl) (hpl:(backTo pos (starEach es X.env)).any (·.1)=false:=by rfl):PE X (.Call (.Name x p) (e::es) [] pos) (tCB r t):=by
 intro pins s σ H Q I h
 refine wpAny_Call_Name_kw (pL I hg hm hv ?_ hn hdb)
 exact PyProof.Rows.callWith_builtin1 (thn (ha pos pins s σ H _ I h) fun us s1 ⟨vs,H1,I1,r1,q1⟩=>hc pins s1 σ H1 vs us Q I1 r1 q1) he hpl
theorem bC(hc:gN X (.type T) r)(hg:Gl X x)(hm:X.mg x=none)(hv:bootBuiltins x=some (.type T))(ha:PA X (e::es) t)(hn:x≠"__name__":=by decide)(hdb:(x==("__debug__":Str))=false:=by decide)
  (he:starEach (e::es) X.env=(false,eval e X.env)::starEach es X.env:=by rfl) (hpl:(backTo pos (starEach es X.env)).any (·.1)=false:=by rfl):PE X (.Call (.Name x p) (e::es) [] pos) (tCB r t):=by
 intro pins s σ H Q I h
 refine wpAny_Call_Name_kw (pL I hg hm hv ?_ hn hdb)
 exact PyProof.Rows.callWith_type1 (thn (ha pos pins s σ H _ I h) fun us s1 ⟨vs,H1,I1,r1,q1⟩=>hc pins s1 σ H1 vs us Q I1 r1 q1) he hpl
end
end L2
namespace HT
open PySem PyProof.Rows
noncomputable def lexLt:List Int->List Int->Bool
 | [],[]=>false
 | [],_::_=>true
 | _::_,[]=>false
 | x::xs,y::ys=>if x=y then lexLt xs ys else decide (x < y)
theorem lexLt_cons(x y:Int)(xs ys:List Int):lexLt (x::xs) (y::ys)=if x=y then lexLt xs ys else decide (x < y):=rfl
theorem qG:lexLt [] []=false:=rfl
theorem pB(y:Int)(ys:List Int):lexLt [] (y::ys)=true:=rfl
theorem pC(x:Int)(xs:List Int):lexLt (x::xs) []=false:=rfl
theorem aV6(A:Around)(s:Shared)(a:Int)(t:Tok)(c:Int)(u:Tok):∃ e,SeqAt.EqAt A s (.int a t) (.int c u) e/\(e=true↔a=c):=
 ⟨(a==c),SeqAt.EqAt.int_int a t c u,by simp⟩
theorem aV7(A:Around)(s:Shared)(a:Int)(t:Tok)(c:Int)(u:Tok)(prog:Program)(w:World)(E:Value->Shared->Prop)(Q:Value->Shared->Prop)(h:Q (.bool (decide (a < c))) s) :
  wpAny (model prog w) A (richCompare .Lt (.int a t) (.int c u)) Q E s:=
 (PyProof.Rows.lt_int h:wpAny (model prog w) A (compareOp .Lt (.int a t) (.int c u)) Q E s)
section
open PySem.SeqAt
open PySem.AutoSeq1 (wpAny_loadPart')
open PySem.MeetsSeq PySem.MeetsSeq2 PySem.MeetsSeq3
theorem qH(l b:Addr)(items items2:Array Value)(n n2:Nat)(dd dd2:Option Addr)(sl sl2:Array (Option Value))(ns ms:List Int)(hi:IntsAre items.toList ns)(hj:IntsAre items2.toList ms) :
  Meets (Builtin.«tuple.__lt__» ⟨[.ref l,.ref b],[]⟩)
   (fun _ R s=>s.heap.get? l=some {cls:=.type "tuple",dict:=dd,data:=.seq items n,slots:=sl}/\s.heap.get? b=some {cls:=.type "tuple",dict:=dd2,data:=.seq items2 n2,slots:=sl2} /\
    R (.ok (.ret (.bool (lexLt ns ms)))) s):=
 .of_wp fun prog w A R s h=>by
  obtain⟨hp,g,d,tk,os⟩:=s;obtain⟨hl,hb,h⟩:=h
  have f2:=AutoSeq1.sub_tuple_tuple
  have z1:items.size=ns.length:=by rw[← hi.length];simp
  have z2:items2.size=ms.length:=by rw[← hj.length];simp
  wp_walk using wpAny_loadPart' hl,wpAny_loadPart' hb,wpAny_forIn_list _ (fun eE b s'=>b.1=none/\s'=⟨hp,g,d,tk,os⟩/\∃ (vs ws:List Value) (ns' ms':List Int),eE=vs.zip ws /\
   IntsAre vs ns'/\IntsAre ws ms'/\ns'.length+items2.size=ms'.length+items.size/\R (.ok (.ret (.bool (lexLt ns' ms')))) ⟨hp,g,d,tk,os⟩) _
  case turn=>
   rintro⟨y,x⟩ eE b s' ⟨hb',rfl,vs,ws,ns',ms',hz,hvi,hwi,hlen,hR⟩
   cases hvi with
   | nil=>rw[List.zip_nil_left]at hz;cases hz
   | cons a t hvi'=>
     cases hwi with
     | nil=>rw[List.zip_nil_right]at hz;cases hz
     | cons c u hwi'=>
       rw[List.zip_cons_cons]at hz
       injection hz with hyx hrest
       injection hyx with hy hx
       subst hy hx
       rw[lexLt_cons]at hR
       simp only[List.length_cons]at hlen
       obtain⟨e,he,hiff⟩:=aV6 A.in1 ⟨hp,g,d,tk,os⟩ a t c u
       refine wpAny_bind (he prog w _ _ ?_)
       cases e with
       | true=>
         rw[if_pos (hiff.mp rfl)]at hR
         wp_walk
         exact⟨rfl,rfl,_,_,_,_,hrest,hvi',hwi',by omega,hR⟩
       | false=>
         rw[if_neg (fun q=>absurd (hiff.mpr q) Bool.false_ne_true)]at hR
         have hri:=aV7 A.in1 ⟨hp,g,d,tk,os⟩ a t c u prog w
         wp_walk using hri
         exact⟨_,rfl,by simpa using hR⟩
  case fin=>
   rintro⟨b1,b2⟩ s' ⟨hb',rfl,vs,ws,ns',ms',hz,hvi,hwi,hlen,hR⟩
   simp only at hb'
   subst hb'
   have hv:lexLt ns' ms'=decide (items.size < items2.size):=by
    cases hvi with
    | nil=>
      cases hwi with
      | nil=>
        simp only[List.length_nil]at hlen
        rw[qG]
        exact(decide_eq_false (by omega)).symm
      | cons c u hw=>
        simp only[List.length_nil,List.length_cons]at hlen
        rw[pB]
        exact(decide_eq_true (by omega)).symm
    | cons a t hv=>
      cases hwi with
      | nil=>
        simp only[List.length_nil,List.length_cons]at hlen
        rw[pC]
        exact(decide_eq_false (by omega)).symm
      | cons c u hw=>
        rw[List.zip_cons_cons]at hz
        cases hz
   rw[hv]at hR
   wp_walk
   exact⟨_,rfl,by simpa[Builtin.Tuple.tupleCompareSizes]using hR⟩
  case h=>
   exact⟨rfl,rfl,items.toList,items2.toList,ns,ms,rfl,hi,hj,by omega,h⟩
end
section
variable{prog:Program}{w:World}{A:Around}{E:Value->Shared->Prop}{s:Shared}
theorem lt_tupInts{l b:Addr}{items items2:Array Value}{ns ms:List Int}{Q:Value->Shared->Prop}(hl:IsTup s.heap l items)(hb:IsTup s.heap b items2)(hi:IntsAre items.toList ns)(hj:IntsAre items2.toList ms)
  (hu:A.units < cLine) (h:Q (.bool (lexLt ns ms)) s):wpAny (model prog w) A (compareOp .Lt (.ref l) (.ref b)) Q E s:=by
 obtain⟨⟨cls,dd,data,sl⟩,ho,hc,n,hd⟩:=id hl
 obtain⟨⟨cls2,dd2,data2,sl2⟩,ho2,hc2,n2,hd2⟩:=id hb
 simp only at hc hd hc2 hd2
 subst hc hd hc2 hd2
 exact richCompare_meets_room (op:=.Lt) ⟨_,ho,rfl⟩ ⟨_,ho2,rfl⟩ PySem.F.slot_tuple_lt PySem.F.entry_tuple_lt (PySem.F.args_tuple_lt_2 _ _) (qH l b items items2 n n2 dd dd2 sl sl2 ns ms hi hj)
  ⟨ho,ho2,show Value.bool (lexLt ns ms)≠Value.notImplemented/\Q (.bool (lexLt ns ms)) s from⟨(fun x=>nomatch x),h⟩⟩ hu
theorem cat_tup{t b:Addr}{vs ws:List Value}{Q:Value->Shared->Prop}(ht:IsTup s.heap t vs.toArray)(hb:IsTup s.heap b ws.toArray)(hv:vs≠[])
  (h1:ws=[]->Q (.ref t) s) (h2:ws≠[]->Q (.ref s.heap.objs.size) {s with heap:=s.heap.push {cls:=.type "tuple",data:=.seq (vs++ws).toArray}})
  (hsz:vs.length+ws.length<=sizeLine):wpAny (model prog w) A (binaryOp .Add (.ref t) (.ref b)) Q E s:=by
 obtain⟨⟨cls,dd,data,sl⟩,ho,hc,n,hd⟩:=id ht
 obtain⟨⟨cls2,dd2,data2,sl2⟩,ho2,hc2,n2,hd2⟩:=id hb
 simp only at hc hd hc2 hd2
 subst hc hd hc2 hd2
 have e:vs.toArray++ws.toArray=(vs++ws).toArray:=by simp
 by_cases hw:ws=[]
 ·exact concat_meets ⟨_,ho,rfl⟩ ⟨_,ho2,rfl⟩ noFill_tuple_add seq_tuple_add PySem.F.slot_tuple_add PySem.F.entry_tuple_add (PySem.F.args_tuple_add_2 _ _)
   (tuple_addW1 t b vs.toArray ws.toArray n n2 dd dd2 sl sl2 (by simpa using hv) (by simp[hw])) ⟨ho,ho2,h1 hw⟩
 ·refine concat_meets ⟨_,ho,rfl⟩ ⟨_,ho2,rfl⟩ noFill_tuple_add seq_tuple_add PySem.F.slot_tuple_add PySem.F.entry_tuple_add (PySem.F.args_tuple_add_2 _ _)
   (tuple_addW2 t b vs.toArray ws.toArray n n2 dd dd2 sl sl2 (by simpa using hv) (by simpa using hw) (by rw[List.size_toArray,List.size_toArray];exact hsz)) ⟨ho,ho2,?_⟩
  rw[e]
  exact h2 hw
noncomputable def sIx(n d:Nat):Option Int->Nat
 | none=>d
 | some v=>if v < 0 then(v+(n:Int)).toNat else min v.toNat n
theorem sIx_none(n d:Nat):sIx n d none=d:=rfl
theorem sIx_nat(n d k:Nat):sIx n d (some (k:Int))=min k n:=by
 show(if(k:Int) < 0 then((k:Int)+(n:Int)).toNat else min (k:Int).toNat n)=min k n
 rw[if_neg (by omega),Int.toNat_natCast]
theorem bR1(n d:Nat)(hd:d<=n)(o:Option Int):sIx n d o<=n:=by
 cases o with
 | none=>exact hd
 | some v=>
   show(if v < 0 then(v+(n:Int)).toNat else min v.toNat n)<=n
   by_cases hv:v < 0
   ·rw[if_pos hv];omega
   ·rw[if_neg hv];exact Nat.min_le_right _ _
theorem aL7(v:Int)(n d:Nat):(if v < 0 then max (v+(n:Int)) 0 else min v (n:Int))=((sIx n d (some v):Nat):Int):=by
 show(if v < 0 then max (v+(n:Int)) 0 else min v (n:Int))=(((if v < 0 then(v+(n:Int)).toNat else min v.toNat n):Nat):Int)
 by_cases hv:v < 0
 ·simp only[if_pos hv];omega
 ·simp only[if_neg hv];omega
theorem aG8(lo hi:Option Int)(n:Nat):Builtin.Slice.sliceAdjust lo hi 1 (n:Int)=(((sIx n 0 lo:Nat):Int),((sIx n n hi:Nat):Int)):=by
 have h1:¬ ((1:Int) < 0):=by omega
 unfold Builtin.Slice.sliceAdjust
 simp only[h1,if_false]
 refine Prod.ext ?_ ?_
 ·cases lo with
  | none=>rfl
  | some v=>exact aL7 v n 0
 ·cases hi with
  | none=>rfl
  | some v=>exact aL7 v n n
theorem aG9(i j:Nat):Builtin.Slice.slicePlaces (i:Int) (j:Int) 1=j-i:=by
 unfold Builtin.Slice.slicePlaces
 have h1:(1:Int) > 0:=by omega
 simp only[h1,if_true,Int.ediv_one]
 split<;>omega
theorem pN{v:Value}{o:Option Int}{Q:Option Int->Shared->Prop}(p:IsPart v o)(h:Q o s):wpAny (model prog w) A (Builtin.Slice.slicePartIndex v) Q E s:=by
 cases p with
 | none=>exact slicePart_none h
 | int i t=>exact slicePart_int h
theorem gH{sl:Addr}{vl vu:Value}{lo hi:Option Int}{n:Nat}{Q:Int×Int×Nat->Shared->Prop}(hs:s.heap.IsSliceOf sl vl vu .none)(pl:IsPart vl lo)(pu:IsPart vu hi)
  (h:Q (((sIx n 0 lo:Nat):Int),1,sIx n n hi-sIx n 0 lo) s):wpAny (model prog w) A (Builtin.Slice.sliceApplied (.ref sl) (pure (n:Int))) Q E s:=by
 obtain⟨os,hos,hcs,hds⟩:=id hs
 unfold Builtin.Slice.sliceApplied Builtin.Slice.sliceFields
 refine wpAny_bind (wpAny_bind (wpAny_field hos hds (x:=vl) rfl (wpAny_bind (wpAny_field hos hds (x:=vu) rfl (wpAny_bind (wpAny_field hos hds (x:=.none) rfl (wpAny_pure ?_)))))))
 refine wpAny_bind (slicePart_none ?_)
 show wpAny _ _ (if((1:Int)==0)=true then _ else _) _ _ s
 rw[if_neg (by decide)]
 refine wpAny_bind (pN pl (wpAny_bind (pN pu (wpAny_bind (wpAny_pure ?_)))))
 show wpAny _ _ (match Builtin.Slice.sliceAdjust lo hi 1 (n:Int)with | (lo,hi)=>pure (lo,(1:Int),Builtin.Slice.slicePlaces lo hi 1)) _ _ s
 rw[aG8 lo hi n]
 show wpAny _ _ (pure (((sIx n 0 lo:Nat):Int),(1:Int),Builtin.Slice.slicePlaces ((sIx n 0 lo:Nat):Int) ((sIx n n hi:Nat):Int) 1)) _ _ s
 rw[aG9]
 exact wpAny_pure h
theorem aV8(xs:Array Value)(i k:Nat):((List.range k).filterMap fun(m:Nat)=>xs[((i:Int)+(m:Int)*1).toNat]?).toArray=((xs.toList.drop i).take k).toArray:=by
 have e:(fun(m:Nat)=>xs[((i:Int)+(m:Int)*1).toNat]?)=fun m=>xs[i+m]?:=by
  funext m
  have:((i:Int)+(m:Int)*1).toNat=i+m:=by omega
  rw[this]
 rw[e]
 have:=pick_run xs i k
 rw[List.filterMap_map]at this
 have e2:((fun x=>xs[x]?) ∘ fun x=>i+x)=fun m=>xs[i+m]?:=rfl
 rw[e2]at this
 rw[this]
theorem getItem_tuple_cut{t sl:Addr}{items:Array Value}{vl vu:Value}{lo hi:Option Int}{Q:Value->Shared->Prop}(ht:IsTup s.heap t items)(hs:s.heap.IsSliceOf sl vl vu .none)(pl:IsPart vl lo)(pu:IsPart vu hi)
  (hw:¬ (sIx items.size 0 lo=0/\sIx items.size items.size hi=items.size))
  (h:Q (.ref s.heap.objs.size) {s with heap:=s.heap.push {cls:=.type "tuple",data:=.seq ((items.toList.drop (sIx items.size 0 lo)).take (sIx items.size items.size hi-sIx items.size 0 lo)).toArray}})
  (hsz:items.size<=sizeLine):wpAny (model prog w) A (getItem (.ref t) (.ref sl)) Q E s:=by
 have htake:sizeOk (.seq ((items.toList.drop (sIx items.size 0 lo)).take (sIx items.size items.size hi-sIx items.size 0 lo)).toArray):=by
  show((items.toList.drop (sIx items.size 0 lo)).take (sIx items.size items.size hi-sIx items.size 0 lo)).toArray.size<=sizeLine
  rw[List.size_toArray,List.length_take,List.length_drop,Array.length_toList]
  omega
 have hj:sIx items.size items.size hi<=items.size:=bR1 _ _ (Nat.le_refl _) hi
 obtain⟨os,hos,hcs,hds⟩:=id hs
 have hTs:s.TypeIs (.ref sl) "slice":=⟨os,hos,hcs⟩
 unfold getItem
 try with_reducible refine wpAny_holding ?_
 first | refine wpAny_bind (wpAny_pure ?_) | skip
 refine wpAny_bind (wpAny_sequenceKey ht.typeIs (by decide) ?_)
 refine wpAny_bind (wpAny_callSpecial?_slot (name:=Str.ofString "__getitem__") ht.typeIs PyProof.Rows.slot_tuple_getitem
  (wpAny_call_entry PyProof.Rows.slot_tuple_getitem ht.typeIs entry_tuple_getitem ?_ (args_tuple_getitem _ _)))
 show wpAny _ _ (Builtin.Tuple.tupleItemsOf (.ref t) >>= _) _ _ s
 refine wpAny_bind (tupleItemsOf_ ht ?_)
 refine wpAny_bind (wpAny_typeOf hTs ?_)
 rw[if_pos (by decide)]
 refine wpAny_bind (gH hs pl pu ?_)
 have hno:¬ ((((sIx items.size 0 lo:Nat):Int)==0&&(1:Int)==1&&(sIx items.size items.size hi-sIx items.size 0 lo)==items.size)=true):=by
  intro q
  rw[Bool.and_eq_true,Bool.and_eq_true]at q
  have q1:((sIx items.size 0 lo:Nat):Int)=0:=eq_of_beq q.1.1
  have q2:sIx items.size items.size hi-sIx items.size 0 lo=items.size:=eq_of_beq q.2
  exact hw ⟨by omega,by omega⟩
 show wpAny _ _ (if(((sIx items.size 0 lo:Nat):Int)==0&&(1:Int)==1&&(sIx items.size items.size hi-sIx items.size 0 lo)==items.size)=true then _ else _) _ _ s
 rw[if_neg hno,aV8]
 first
  | exact wpAny_bind (m:=Builtin.Tuple.tupleExact _) (wpAny_newObj_type (wpAny_pure ⟨_,rfl,wpAny_pure h⟩) htake)
  | exact wpAny_bind (m:=Builtin.Tuple.tupleExact _) (wpAny_newObj_type (wpAny_bind (wpAny_pure (wpAny_pure ⟨_,rfl,wpAny_pure h⟩))) htake)
  | exact wpAny_bind (wpAny_bind (m:=Builtin.Tuple.tupleExact _) (wpAny_newObj_type (wpAny_pure (wpAny_pure ⟨_,rfl,wpAny_pure h⟩)) htake))
  | exact wpAny_bind (wpAny_bind (m:=Builtin.Tuple.tupleExact _) (wpAny_newObj_type (wpAny_pure ⟨_,rfl,wpAny_pure h⟩) htake))
end
end HT
namespace L2
open PySem PySem.Spec PyProof.Rows
noncomputable abbrev TO:=St->Hp->(Option Int->Hp->Prop)->Prop
noncomputable def PO(X:Cx)(e:Option Expr)(t:TO):Prop:=
 ∀ (pins:List (Addr×Obj)) (s:Shared) (σ:St) (H:Hp) (Q:Option Int->Hp->Prop),Inv X pins σ H s->t σ H Q ->
   wpAny (model X.prog X.w) X.A (evalPart e X.env) (fun u s'=>∃ o H',Inv X pins σ H' s'/\IsPart u o/\Q o H') X.xe s
noncomputable def bF6:TO:=fun _ H Q=>Q none H
noncomputable def cA8(t:TE):TO:=fun σ H Q=>t σ H fun x H1=>∃ i,x=.int i/\Q (some i) H1
theorem pO{ns:List Int}:∀ {us:List Value},bL (ns.map V.int) us->IntsAre us ns:=by
 induction ns with
 | nil=>intro us r;rw[List.map_nil]at r;cases r;exact .nil
 | cons n ns ih=>
   intro us r
   rw[List.map_cons]at r
   cases r with
   | cons r1 r2=>
     obtain⟨t,e⟩:=r1
     subst e
     exact .cons n t (ih r2)
section
variable{X:Cx}{e:Expr}{te:TE}{lo hi:Option Expr}{tl th:TO}{pos p2:Pos}
theorem bF7:PO X none bF6:=by
 intro pins s σ H Q I h
 rw[evalPart_none]
 exact wpAny_pure ⟨none,H,I,.none,h⟩
theorem bF8(h:PE X e te):PO X (some e) (cA8 te):=by
 intro pins s σ H Q I hw
 rw[evalPart_some]
 refine thn (h pins s σ H _ I hw) fun u s1 ⟨x,H1,I1,r1,q1⟩=>?_
 obtain⟨i,rfl,q⟩:=q1
 obtain⟨t,rfl⟩:=r1
 exact⟨some i,H1,I1,.int i t,q⟩
noncomputable def SlR(X:Cx)(r:V->Option Int->Option Int->Hp->VK->Prop):Prop:=
 ∀ (pins:List (Addr×Obj)) (s:Shared) (σ:St) (H:Hp) (x:V) (v vl vu:Value) (lo hi:Option Int) (sl:Addr) (Q:VK),Inv X pins σ H s->dN x v->s.heap.IsSliceOf sl vl vu .none->IsPart vl lo->IsPart vu hi->r x lo hi H Q ->
   ∃ T id,typeLookup (.type T) "__getitem__"=pure (some (.builtin id))/\s.TypeIs v T/\wpAny (model X.prog X.w) X.A (getItem v (.ref sl)) (EP X pins σ Q) X.xe s
theorem SlR.or{r r':V->Option Int->Option Int->Hp->VK->Prop}(h:SlR X r)(h':SlR X r'):SlR X (fun x lo hi H Q=>r x lo hi H Q\/r' x lo hi H Q):=by
 intro pins s σ H x v vl vu lo hi sl Q I rx hs pl pu q
 rcases q with q | q
 ·exact h pins s σ H x v vl vu lo hi sl Q I rx hs pl pu q
 ·exact h' pins s σ H x v vl vu lo hi sl Q I rx hs pl pu q
noncomputable def tSl(r:V->Option Int->Option Int->Hp->VK->Prop)(te:TE)(tl th:TO):TE:=fun σ H Q=>te σ H fun x H1=>tl σ H1 fun l H2=>th σ H2 fun u H3=>r x l u H3 Q
theorem aV9{r:V->Option Int->Option Int->Hp->VK->Prop}(hr:SlR X r)(he:PE X e te)(hl:PO X lo tl)(hu:PO X hi th):PE X (.Subscript e (.Slice lo hi none p2) pos) (tSl r te tl th):=by
 intro pins s σ H Q I h
 refine Subscript_ (thn (he pins s σ H _ I h) fun v s1 ⟨x,H1,I1,r1,q1⟩=>?_)
 refine wpAny_Slice (thn (hl pins s1 σ H1 _ I1 q1) fun vl s2 ⟨l,H2,I2,pl,q2⟩=>thn (hu pins s2 σ H2 _ I2 q2) fun vu s3 ⟨u,H3,I3,pu,q3⟩=>?_)
 rw[evalPart_none]
 refine wpAny_pure ?_
 have I4:Inv X pins σ H3 {s3 with heap:=s3.heap.push {cls:=.type "slice",data:=.fields #[vl,vu,.none]}}:=I3.kept (t':=s3.toks) fun b ob q=>Heap.get?_push_of_some _ q
 obtain⟨T,id,hT,ht,hg⟩:=hr pins {s3 with heap:=s3.heap.push {cls:=.type "slice",data:=.fields #[vl,vu,.none]}} σ H3 x v vl vu l u s3.heap.objs.size Q I4 r1 (Heap.IsSliceOf.new ..) pl pu q3
 show wpAny (model X.prog X.w) X.A (subscriptTail e (.Slice lo hi none p2) v (.ref s3.heap.objs.size)) (EP X pins σ Q) X.xe {s3 with heap:=s3.heap.push {cls:=.type "slice",data:=.fields #[vl,vu,.none]}}
 exact tail_any (ops:=[.ref s3.heap.objs.size,v]) ht hT hg (by with_unfolding_all rfl)
noncomputable def yL(xs:List V)(lo hi:Option Int):List V:=(xs.drop (HT.sIx xs.length 0 lo)).take (HT.sIx xs.length xs.length hi-HT.sIx xs.length 0 lo)
theorem lY(xs:List V)(lo hi:Option Int):(yL xs lo hi).length<=xs.length:=by
 unfold yL
 rw[List.length_take,List.length_drop]
 omega
noncomputable def cG9(K:PySem.W.Frag):V->Option Int->Option Int->Hp->VK->Prop:=fun x lo hi H Q=>∃ a xs,x=.ref a/\SqT K H a xs /\
 ¬ (HT.sIx xs.length 0 lo=0/\HT.sIx xs.length xs.length hi=xs.length)/\∀ p,H p=none->Q (.ref p) (upd H p (.tup (yL xs lo hi)))
theorem bR2:SlR X (cG9 X.K):=by
 intro pins s σ H x v vl vu lo hi sl Q I rx hs pl pu h
 obtain⟨a,xs,rfl,hx,hw,q⟩:=h
 cases rx
 obtain⟨its,r,ht,hz⟩:=I.tuple hx
 have hlen:its.toArray.size=xs.length:=by rw[List.size_toArray];exact r.length.symm
 refine⟨"tuple",_,PyProof.Rows.slot_tuple_getitem.lookup,ht.typeIs,?_⟩
 refine HT.getItem_tuple_cut ht hs pl pu (by rw[hlen];exact hw) ?_ (by rw[hlen];exact hz)
 rw[hlen]
 refine⟨.ref s.heap.objs.size,_,I.laid (t':=s.toks) (o:=.tup (yL xs lo hi)) (fun b ob q=>Heap.get?_push_of_some _ q) (Nat.le_refl _) ?_,rfl,q _ (I.hok.fresh (Nat.le_refl _))⟩
 exact⟨Nat.le_trans (lY xs lo hi) hz,_,(r.drop (HT.sIx xs.length 0 lo)).take (HT.sIx xs.length xs.length hi-HT.sIx xs.length 0 lo),IsTup.new _ _,⟨_,Heap.get?_push_size _ rfl,rfl⟩⟩
noncomputable def cH0(K:PySem.W.Frag):R2:=fun x y H Q=>∃ a b ns ms,x=.ref a/\y=.ref b/\SqT K H a (ns.map V.int)/\SqT K H b (ms.map V.int)/\Q (.bl (HT.lexLt ns ms)) H
theorem bR3(hu:X.A.units < cLine):OpR X (compareOp .Lt) (cH0 X.K):=by
 intro pins s σ H x y v u Q I rx ry h
 obtain⟨a,b,ns,ms,rfl,rfl,ha,hb,q⟩:=h
 cases rx
 cases ry
 obtain⟨its,r1,p1,_⟩:=I.tuple ha
 obtain⟨its2,r2,p2,_⟩:=I.tuple hb
 have i1:IntsAre its.toArray.toList ns:=pO r1
 have i2:IntsAre its2.toArray.toList ms:=pO r2
 exact HT.lt_tupInts p1 p2 i1 i2 hu ⟨.bl (HT.lexLt ns ms),H,I,rfl,q⟩
noncomputable def cA9(K:PySem.W.Frag):R2:=fun x y H Q=>∃ a b xs ys,x=.ref a/\y=.ref b/\SqT K H a xs/\SqT K H b ys/\xs≠[]/\xs.length+ys.length<=sizeLine /\
 (ys=[]->Q (.ref a) H)/\(ys≠[]->∀ p,H p=none->Q (.ref p) (upd H p (.tup (xs++ys))))
theorem bL.nil_iff{xs:List V}{us:List Value}(r:bL xs us):us=[]↔xs=[]:=by
 cases r with
 | nil=>simp
 | cons _ _=>simp
theorem bF9:OpR X (binaryOp .Add) (cA9 X.K):=by
 intro pins s σ H x y v u Q I rx ry h
 obtain⟨a,b,xs,ys,rfl,rfl,ha,hb,hx,hz,q1,q2⟩:=h
 cases rx
 cases ry
 obtain⟨its,r1,p1,_⟩:=I.tuple ha
 obtain⟨its2,r2,p2,_⟩:=I.tuple hb
 refine HT.cat_tup p1 p2 (fun z=>hx (r1.nil_iff.mp z)) (fun z=>⟨.ref a,H,I,rfl,q1 (r2.nil_iff.mp z)⟩) (fun z=>?_) (by rw[← r1.length,← r2.length];exact hz)
 refine⟨.ref s.heap.objs.size,_,I.laid (t':=s.toks) (o:=.tup (xs++ys)) (fun b ob q=>Heap.get?_push_of_some _ q) (Nat.le_refl _) ?_,rfl,q2 (fun w=>z (r2.nil_iff.mpr w)) _ (I.hok.fresh (Nat.le_refl _))⟩
 exact⟨by rw[List.length_append];exact hz,_,r1.append r2,IsTup.new _ _,⟨_,Heap.get?_push_size _ rfl,rfl⟩⟩
end
end L2
namespace L2
open PySem PySem.Spec PyProof.Rows
noncomputable def ixN(n:Nat)(i:Int):Option Nat:=if 0<=i then(if i < n then some i.toNat else none)else if -(n:Int)<=i then some (i+n).toNat else none
noncomputable def atI{α:Type}(xs:List α)(i:Int):Option α:=(ixN xs.length i).bind fun j=>xs[j]?
theorem yM{n:Nat}{i:Int}{j:Nat}(h:ixN n i=some j):seqIndex? i n=some j/\j < n /\ -(n:Int)<=i/\i < n:=by
 unfold ixN at h
 by_cases h0:0<=i
 ·rw[if_pos h0]at h
  by_cases h1:i < n
  ·rw[if_pos h1]at h
   have e:i.toNat=j:=Option.some.inj h
   exact⟨by rw[seqIndex_of h0 h1,e],by omega,by omega,h1⟩
  ·rw[if_neg h1]at h;cases h
 ·rw[if_neg h0]at h
  by_cases h1:-(n:Int)<=i
  ·rw[if_pos h1]at h
   have e:(i+n).toNat=j:=Option.some.inj h
   exact⟨by rw[seqIndex_neg (by omega) h1,e],by omega,h1,by omega⟩
  ·rw[if_neg h1]at h;cases h
theorem qI{α:Type}{xs:List α}{i:Int}{v:α}(h:atI xs i=some v):∃ j,seqIndex? i xs.length=some j/\xs[j]? = some v/\j < xs.length /\ -(xs.length:Int)<=i/\i < xs.length:=by
 unfold atI at h
 cases e:ixN xs.length i with
 | none=>rw[e]at h;cases h
 | some j=>
   rw[e]at h
   obtain⟨h1,h2,h3,h4⟩:=yM e
   exact⟨j,h1,h,h2,h3,h4⟩
theorem bG0{α:Type}{xs:List α}{j:Nat}{v:α}(h:xs[j]? = some v):atI xs (j:Int)=some v:=by
 have hj:j < xs.length:=(List.getElem?_eq_some_iff.mp h).1
 have e:ixN xs.length (j:Int)=some j:=by
  unfold ixN
  rw[if_pos (by omega),if_pos (by omega)];simp
 unfold atI;rw[e];exact h
noncomputable def aL8(b:Expr):Prop:=∀ o i,subscripted b false o i=operate [o,i] (getItem o i)
noncomputable def IxR(X:Cx)(r:R2):Prop:=
 ∀ (value slice:Expr) (pins:List (Addr×Obj)) (s:Shared) (σ:St) (H:Hp) (x y:V) (v u:Value) (Q:VK),Inv X pins σ H s->dN x v->dN y u->r x y H Q ->
   subscripted slice false v u=operate [v,u] (getItem v u)->wpAny (model X.prog X.w) X.A (subscriptTail value slice v u) (EP X pins σ Q) X.xe s
noncomputable def MtR(X:Cx)(id:String)(r:V->List V->Hp->VK->Prop):Prop:=
 ∀ (pins:List (Addr×Obj)) (s:Shared) (σ:St) (H:Hp) (x:V) (xs:List V) (v:Value) (us:List Value) (Q:VK),Inv X pins σ H s->dN x v->bL xs us->r x xs H Q ->
   wpAny (model X.prog X.w) X.A (call (.builtin id) (v::us)) (EP X pins σ Q) X.xe s
section
variable{X:Cx}{a b:Expr}{ta tb:TE}{pos:Pos}
theorem IxR.or{r r':R2}(h:IxR X r)(h':IxR X r'):IxR X (fun x y H Q=>r x y H Q\/r' x y H Q):=by
 intro value slice pins s σ H x y v u Q I rx ry q hs
 rcases q with q | q
 ·exact h value slice pins s σ H x y v u Q I rx ry q hs
 ·exact h' value slice pins s σ H x y v u Q I rx ry q hs
theorem MtR.or{id:String}{r r':V->List V->Hp->VK->Prop}(h:MtR X id r)(h':MtR X id r'):MtR X id (fun x xs H Q=>r x xs H Q\/r' x xs H Q):=by
 intro pins s σ H x xs v us Q I rx rs q
 rcases q with q | q
 ·exact h pins s σ H x xs v us Q I rx rs q
 ·exact h' pins s σ H x xs v us Q I rx rs q
theorem cB0{r:R2}(hr:IxR X r)(ha:PE X a ta)(hb:PE X b tb)(hs:aL8 b):PE X (.Subscript a b pos) (tOp r ta tb):=by
 intro pins s σ H Q I h
 exact Subscript_ (cA1 ha hb I h fun v u s2 x y H2 I2 rx ry q=>hr a b pins s2 σ H2 x y v u Q I2 rx ry q (hs _ _))
noncomputable def cH1(K:PySem.W.Frag):R2:=fun x y H Q=>∃ p xs i v,x=.ref p/\y=.int i/\SqL K H p xs/\atI xs i=some v/\Q v H
noncomputable def cH2(K:PySem.W.Frag):R2:=fun x y H Q=>∃ p xs i v,x=.ref p/\y=.int i/\SqT K H p xs/\atI xs i=some v/\Q v H
noncomputable def cH3:R2:=fun x y H Q=>∃ z i c,x=.str z/\y=.int i/\z.length<=sizeLine/\atI z.cps.toList i=some c/\Q (.str ⟨#[c]⟩) H
theorem bG1:IxR X (cH1 X.K):=by
 intro value slice pins s σ H x y v u Q I rx ry h hs
 obtain⟨p,xs,i,z,rfl,rfl,hq,he,q⟩:=h
 cases rx
 obtain⟨t,rfl⟩:=ry
 obtain⟨its,r,pl,hz⟩:=I.list hq
 obtain⟨j,h1,h2,h3,h4,h5⟩:=qI he
 obtain⟨w,ew,rw'⟩:=r.get h2
 have hl:=r.length
 have hn:=pM
 have fin:EP X pins σ Q w s:=⟨z,H,I,rw',q⟩
 by_cases h0:0<=i
 ·have hj:i.toNat=j:=by
   rw[seqIndex_of h0 h5]at h1
   exact Option.some.inj h1
  exact item_listR pl.isList h0 (by omega) (by rw[hj];simpa using ew) fin hs
 ·have hj:(i+(its.toArray.size:Int)).toNat=j:=by
   rw[seqIndex_neg (by omega) h4]at h1
   rw[List.size_toArray,← hl]
   exact Option.some.inj h1
  exact subscriptTail_builtinR (x:=w) pl.isList.typeIs slot_list_getitem.lookup
   (wpAny_getItem_list_neg (Q:=fun r s'=>r=w/\EP X pins σ Q r s') pl.isList (by omega) (by rw[List.size_toArray]<;>omega) (by omega) (by rw[hj];simpa using ew) ⟨rfl,fin⟩) hs
theorem bR4:IxR X (cH2 X.K):=by
 intro value slice pins s σ H x y v u Q I rx ry h hs
 obtain⟨p,xs,i,z,rfl,rfl,hq,he,q⟩:=h
 cases rx
 obtain⟨t,rfl⟩:=ry
 obtain⟨its,r,pl,hz⟩:=I.tuple hq
 obtain⟨j,h1,h2,h3,h4,h5⟩:=qI he
 obtain⟨w,ew,rw'⟩:=r.get h2
 have hl:=r.length
 have hn:=pM
 have fin:EP X pins σ Q w s:=⟨z,H,I,rw',q⟩
 exact subscriptTail_builtinR (x:=w) pl.typeIs slot_tuple_getitem.lookup
  (getItem_tuple (j:=j) (Q:=fun r s'=>r=w/\EP X pins σ Q r s') pl (by omega) (by omega) (by rw[List.size_toArray,← hl];exact h1) (by simpa using ew) ⟨rfl,fin⟩) hs
theorem bR5:IxR X cH3:=by
 intro value slice pins s σ H x y v u Q I rx ry h hs
 obtain⟨z,i,c,rfl,rfl,hz,he,q⟩:=h
 obtain⟨t,rfl⟩:=rx
 obtain⟨t',rfl⟩:=ry
 obtain⟨j,h1,h2,h3,h4,h5⟩:=qI he
 have hl:z.cps.toList.length=z.length:=by simp[Str.length]
 rw[hl]at h1 h4 h5
 have hn:=pM
 exact tail_any (typeIs_str s z t) slot_str_getitem.lookup (getItem_str (c:=c) (by
  have e1:decide (i < -(2 ^ 63:Int))=false:=decide_eq_false (by omega)
  have e2:decide (i ≥ 2 ^ 63)=false:=decide_eq_false (by omega)
  rw[e1,e2,Bool.or_false]) (by rw[h1];simpa using h2) ⟨.str ⟨#[c]⟩,H,I.tok _,⟨_,rfl⟩,q⟩) hs
theorem aH0(its:List Value)(n j:Nat)(u:Value):Obj.mapSeq (·.setIfInBounds j u) {cls:=.type "list",data:=.seq its.toArray n}={cls:=.type "list",data:=.seq (its.set j u).toArray n}:=by
 simp[Obj.mapSeq]
theorem Inv.lst{pins:List (Addr×Obj)}{σ:St}{H:Hp}{s:Shared}{p:Addr}{xs:List V}(I:Inv X pins σ H s)(h:H p=some (.lst xs)) :
  ∃ (its:List Value) (n:Nat),bL xs its/\s.heap.get? p=some {cls:=.type "list",data:=.seq its.toArray n}/\xs.length<=sizeLine:=by
 obtain⟨z,its,n,r,e⟩:=I.hok p _ h
 exact⟨its,n,r,e,z⟩
theorem Inv.lstUpd{pins:List (Addr×Obj)}{σ:St}{H:Hp}{s:Shared}{p:Addr}{xs ys:List V}{its its':List Value}{n n':Nat}{f:Obj->Obj}(I:Inv X pins σ H s)(h:H p=some (.lst xs))
  (ho:s.heap.get? p=some {cls:=.type "list",data:=.seq its.toArray n}) (hf:f {cls:=.type "list",data:=.seq its.toArray n}={cls:=.type "list",data:=.seq its'.toArray n'}) (r:bL ys its') (hz:ys.length<=sizeLine) (t:Nat) :
  Inv X pins σ (upd H p (.lst ys)) {s with heap:=s.heap.update p f,toks:=t}:=by
 have e:(s.heap.update p f).get? p=some {cls:=.type "list",data:=.seq its'.toArray n'}:=by
  rw[Heap.get?_update_self f ho (by rw[hf]<;>rfl),hf]
 refine I.write (x:=p) (e:=p) (by rw[h];trivial) (.inl rfl) (fun b u hb q=>(Heap.get?_update_other _ _ (Ne.symm hb)).trans q) ⟨_,e⟩ ?_
 exact⟨hz,its',n',r,e⟩
noncomputable def bR6:V->V->V->Hp->(Hp->Prop)->Prop:=fun o i v H Q=>∃ p xs k j,o=.ref p/\i=.int k/\H p=some (.lst xs)/\ixN xs.length k=some j/\Q (upd H p (.lst (xs.set j v)))
theorem qJ:cD6 X bR6:=by
 intro pins s σ H o i v ov iv u Q I ro ri rv h
 obtain⟨p,xs,k,j,rfl,rfl,hp,hj,q⟩:=h
 cases ro
 obtain⟨t,rfl⟩:=ri
 obtain⟨its,n,r,ho,hz⟩:=I.lst hp
 obtain⟨h1,h2,h3,h4⟩:=yM hj
 have hl:=r.length
 have hn:=pM
 have I':Inv X pins σ (upd H p (.lst (xs.set j v))) {s with heap:=s.heap.update p (Obj.mapSeq (·.setIfInBounds j u))}:=
  I.lstUpd hp ho (aH0 its n j u) (r.set rv j) (by rw[List.length_set];exact hz) s.toks
 by_cases h0:0<=k
 ·have hk:k.toNat=j:=by
   rw[seqIndex_of h0 h4]at h1
   exact Option.some.inj h1
  exact PySem.W.ki_setAt ho h0 (by omega) (by rw[List.size_toArray,← hl];exact h4) (by rw[hk];exact⟨_,I',q⟩)
 ·have hk:(k+(its.toArray.size:Int)).toNat=j:=by
   rw[seqIndex_neg (by omega) h3]at h1
   rw[List.size_toArray,← hl]
   exact Option.some.inj h1
  exact PySem.W.ki_setBack ho (by omega) (by rw[List.size_toArray,← hl];exact h3) (by omega) (by rw[hk];exact⟨_,I',q⟩)
theorem rU(lo hi:Option Int)(n:Nat):(sliceBounds lo hi none n).1=((HT.sIx n 0 lo:Nat):Int)/\(sliceBounds lo hi none n).2.1=((HT.sIx n n hi:Nat):Int)/\(sliceBounds lo hi none n).2.2=1:=by
 refine⟨?_,?_,rfl⟩
 ·cases lo with
  | none=>simp[sliceBounds,HT.sIx]
  | some i=>
    simp only[sliceBounds,HT.sIx,Option.getD_none,show(1:Int) > 0 by decide,if_true]
    by_cases h:i < 0
    ·simp only[h,if_true]<;>omega
    ·simp only[h,if_false]<;>omega
 ·cases hi with
  | none=>simp[sliceBounds,HT.sIx]
  | some i=>
    simp only[sliceBounds,HT.sIx,Option.getD_none,show(1:Int) > 0 by decide,if_true]
    by_cases h:i < 0
    ·simp only[h,if_true]<;>omega
    ·simp only[h,if_false]<;>omega
theorem qK(its:List Value)(lo hi:Option Int):slicePick its.toArray lo hi none=((its.drop (HT.sIx its.length 0 lo)).take (HT.sIx its.length its.length hi-HT.sIx its.length 0 lo)).toArray:=by
 obtain⟨h1,h2,h3⟩:=rU lo hi its.toArray.size
 unfold slicePick
 rw[h1,h2,h3]
 simp only[sliceRange_one,pick_run,List.size_toArray]<;>rfl
noncomputable def cH4(K:PySem.W.Frag):V->Option Int->Option Int->Hp->VK->Prop:=fun x lo hi H Q=>∃ a xs,x=.ref a/\SqL K H a xs/\∀ p,H p=none->Q (.ref p) (upd H p (.lst (yL xs lo hi)))
theorem bG2:SlR X (cH4 X.K):=by
 intro pins s σ H x v vl vu lo hi sl Q I rx hs pl pu h
 obtain⟨a,xs,rfl,hx,q⟩:=h
 cases rx
 obtain⟨its,r,ht,hz⟩:=I.list hx
 have hlen:=r.length
 refine⟨"list",_,slot_list_getitem.lookup,ht.isList.typeIs,?_⟩
 refine wpAny_getItem_list_slice ht.isList hs pl pu .none (by simp) ?_ (by rw[List.size_toArray]<;>omega)
 rw[qK,← hlen]
 refine⟨.ref s.heap.objs.size,_,I.laid (t':=s.toks) (o:=.lst (yL xs lo hi)) (fun b ob q=>Heap.get?_push_of_some _ q) (Nat.le_refl _) ?_,rfl,q _ (I.hok.fresh (Nat.le_refl _))⟩
 exact⟨Nat.le_trans (lY xs lo hi) hz,_,0,(r.drop (HT.sIx xs.length 0 lo)).take (HT.sIx xs.length xs.length hi-HT.sIx xs.length 0 lo),Heap.get?_push_size _ rfl⟩
theorem kP:gN X (.builtin "len") (fun xs H Q=>∃ p ys,xs=[.ref p]/\(SqL X.K H p ys\/SqT X.K H p ys)/\Q (.int ys.length) H):=by
 intro pins s σ H xs us Q I r h
 obtain⟨p,ys,rfl,hq,q⟩:=h
 obtain⟨u,rfl,rx⟩:=yK r
 cases rx
 have hn:=pM
 rcases hq with hq | hq
 ·obtain⟨its,r',pl,hz⟩:=I.list hq
  have hlen:=r'.length
  exact Calls.call_len_list pl.isList (by simp only[List.size_toArray]<;>omega) ⟨.int ys.length,H,I.tok _,⟨s.toks+1,by rw[List.size_toArray,hlen]⟩,q⟩
 ·obtain⟨its,r',pl,hz⟩:=I.tuple hq
  have hlen:=r'.length
  exact len_tuple pl (by simp only[List.size_toArray]<;>omega) ⟨.int ys.length,H,I.tok _,⟨s.toks+1,by rw[List.size_toArray,hlen]⟩,q⟩
theorem rV:gN X (.builtin "len") (fun xs H Q=>∃ z,xs=[.str z]/\z.length<=sizeLine/\Q (.int z.length) H):=by
 intro pins s σ H xs us Q I r h
 obtain⟨z,rfl,hz,q⟩:=h
 obtain⟨u,rfl,t,rfl⟩:=yK r
 have hn:=pM
 exact len_str (by omega) ⟨.int z.length,H,I.tok _,⟨_,rfl⟩,q⟩
theorem gN.or{f:Value}{r r':List V->Hp->VK->Prop}(h:gN X f r)(h':gN X f r'):gN X f (fun xs H Q=>r xs H Q\/r' xs H Q):=by
 intro pins s σ H xs us Q I rs q
 rcases q with q | q
 ·exact h pins s σ H xs us Q I rs q
 ·exact h' pins s σ H xs us Q I rs q
theorem kQ:gN X (.type "list") (fun xs H Q=>∃ p ys,xs=[.ref p]/\(SqL X.K H p ys\/SqT X.K H p ys)/\∀ l,H l=none->Q (.ref l) (upd H l (.lst ys))):=by
 intro pins s σ H xs us Q I r h
 obtain⟨p,ys,rfl,hq,q⟩:=h
 obtain⟨u,rfl,rx⟩:=yK r
 cases rx
 have fin:∀ (its:List Value),bL ys its->ys.length<=sizeLine->∀ (h':Heap) (c':Nat),(∀ b o',s.heap.get? b=some o'->h'.get? b=some o') ->
   h'.get? s.heap.objs.size=some {cls:=.type "list",dict:=none,data:=.seq its.toArray c',slots:=#[]}->EP X pins σ Q (.ref s.heap.objs.size) {s with heap:=h'}:=fun its r' hz h' c' kp e=>
  ⟨.ref s.heap.objs.size,_,I.laid (t':=s.toks) kp (Nat.le_refl _) (show cT X.prog X.w _ h' _ (.lst ys)from⟨hz,its,c',r',e⟩),rfl,q _ (I.hok.fresh (Nat.le_refl _))⟩
 rcases hq with hq | hq
 ·obtain⟨its,r',pl,hz⟩:=I.list hq
  have hlen:=r'.length
  obtain⟨o,ho,hc,n,hd⟩:=pl.isList
  exact call_list_seq p (.inl rfl) ho hc hd (fun h' c' kp e=>fin its r' hz h' c' kp e) (by simp only[List.size_toArray]<;>omega)
 ·obtain⟨its,r',pl,hz⟩:=I.tuple hq
  have hlen:=r'.length
  obtain⟨o,ho,hc,n,hd⟩:=pl
  exact call_list_seq p (.inr rfl) ho hc hd (fun h' c' kp e=>fin its r' hz h' c' kp e) (by simp only[List.size_toArray]<;>omega)
theorem jA:gN X (.type "tuple") (fun xs H Q=>∃ p ys,xs=[.ref p]/\((SqL X.K H p ys/\∀ l,H l=none->Q (.ref l) (upd H l (.tup ys)))\/(SqT X.K H p ys/\Q (.ref p) H))):=by
 intro pins s σ H xs us Q I r h
 obtain⟨p,ys,rfl,h⟩:=h
 obtain⟨u,rfl,rx⟩:=yK r
 cases rx
 rcases h with⟨hq,q⟩ | ⟨hq,q⟩
 ·obtain⟨its,r',pl,hz⟩:=I.list hq
  have hlen:=r'.length
  refine call_tuple_list pl.isList (fun h' kp=>?_) (by simp only[List.size_toArray]<;>omega)
  have I1:Inv X pins σ H {s with heap:=h'}:=I.kept (t':=s.toks) kp
  have I2:Inv X pins σ (upd H h'.objs.size (.tup ys)) {s with heap:=h'.push {cls:=.type "tuple",data:=.seq its.toArray}}:=
   I1.laid (t':=s.toks) (fun b o e=>Heap.get?_push_of_some _ e) (Nat.le_refl _) (show cT X.prog X.w _ _ _ (.tup ys)from⟨hz,its,r',IsTup.new _ _,⟨_,Heap.get?_push_size _ rfl,rfl⟩⟩)
  exact⟨.ref h'.objs.size,_,I2,rfl,q _ (I1.hok.fresh (Nat.le_refl _))⟩
 ·obtain⟨its,r',pl,hz⟩:=I.tuple hq
  exact call_tuple_same pl ⟨.ref p,H,I,rfl,q⟩
noncomputable def tyV(K:PySem.W.Frag)(T:String)(x:V)(H:Hp):Prop:=match x with
 | .str _=>T="str"
 | .int _=>T="int"
 | .ref p=>(T="list"/\∃ xs,SqL K H p xs)\/(T="tuple"/\∃ o,K.lookup p=some o/\o.cls=.type "tuple"/\o.dict=none) \/
   (T="dict"/\((∃ kvs,H p=some (.dK kvs))\/∃ kvs,H p=some (.dT kvs)))\/(T="set"/\∃ S n,H p=some (.set S n))
 | _=>False
theorem bR7{pins:List (Addr×Obj)}{σ:St}{H:Hp}{s:Shared}{T:String}{x:V}{v:Value}(I:Inv X pins σ H s)(r:dN x v)(ty:tyV X.K T x H) :
  s.TypeIs v T/\∀ a,v=.ref a->∃ ob,s.heap.get? a=some ob/\ob.dict=none:=by
 cases x with
 | str z=>
   obtain⟨t,rfl⟩:=r
   cases (show T="str" from ty)
   exact⟨typeIs_str s z t,fun _ e=>nomatch e⟩
 | int i=>
   obtain⟨t,rfl⟩:=r
   cases (show T="int" from ty)
   exact⟨typeIs_int s i t,fun _ e=>nomatch e⟩
 | ref p=>
   cases r
   rcases ty with⟨rfl,xs,hq⟩ | ⟨rfl,o,hk,hc,hd⟩ | ⟨rfl,hk⟩ | ⟨rfl,S,n,hk⟩
   ·obtain⟨its,_,pl,_⟩:=I.list hq
    refine⟨pl.isList.typeIs,fun a e=>?_⟩
    cases e
    obtain⟨o,n,e,c,hd,_⟩:=pl
    exact⟨o,e,hd⟩
   ·refine⟨⟨o,I.kIn p o hk,hc⟩,fun a e=>?_⟩
    cases e
    exact⟨o,I.kIn _ o hk,hd⟩
   ·have z:∃ o,s.heap.get? p=some o/\o.ExactDict:=by
     rcases hk with⟨kvs,hk⟩ | ⟨kvs,hk⟩
     ·obtain⟨_,_,_,_,o,_,_,e,ex,_⟩:=I.hok p _ hk
      exact⟨o,e,ex⟩
     ·obtain⟨_,_,_,_,o,_,_,e,ex,_⟩:=I.hok p _ hk
      exact⟨o,e,ex⟩
    obtain⟨o,e,ex⟩:=z
    refine⟨⟨o,e,ex.1⟩,fun a e2=>?_⟩
    cases e2
    exact⟨o,e,ex.2.1⟩
   ·obtain⟨o,_,_,_,e,ex,_⟩:=I.hok p _ hk
    refine⟨⟨o,e,ex.1⟩,fun a e2=>?_⟩
    cases e2
    exact⟨o,e,ex.2.1⟩
 | _=>exact False.elim ty
noncomputable def tBM(K:PySem.W.Frag)(T:String)(r:V->List V->Hp->VK->Prop)(to:TE)(t:TA):TE:=fun σ H Q=>to σ H fun x H1=>tyV K T x H1/\t σ H1 fun xs H2=>r x xs H2 Q
variable{o e:Expr}{es:List Expr}{to:TE}{t:TA}{name:Str}{apos cpos:Pos}{T id:String}{r:V->List V->Hp->VK->Prop}
theorem cB1(pa:PlainAttrs T)(slot:Slot T name id)(hty:typeOf (.builtin id)=pure (.type "method_descriptor"))(hm:MtR X id r)(ho:PE X o to)(ha:PA X (e::es) t)
  (hbase:attributeBase o name X.env (eval o X.env)=eval o X.env:=by rfl)
  (hfew:((backTo cpos (starEach (e::es) X.env)).all (fun x=>!x.1)&&(backToKw cpos (keywordEach [] X.env)).all (fun x=>x.1.isSome)
   && decide ((e::es).length+([]:List Keyword).length+(if([]:List Keyword).isEmpty then 0 else 1) < 30))=true:=by rfl)
  (hline:(apos.endLine==cpos.line)=true:=by rfl) (hs:starEach (e::es) X.env=(false,eval e X.env)::starEach es X.env:=by rfl) (hplain:(backTo cpos (starEach es X.env)).any (·.1)=false:=by rfl) :
  PE X (.Call (.Attribute o name apos) (e::es) [] cpos) (tBM X.K T r to t):=by
 intro pins s σ H Q I h
 refine wpAny_Call_method_late hbase hfew hline rfl (thn (ho pins s σ H _ I h) fun v s1 ⟨x,H1,I1,r1,ty,q1⟩=>?_)
 obtain⟨h1,h2⟩:=bR7 I1 r1 ty
 refine⟨T,id,pa,slot,hty,h1,h2,?_⟩
 have hA:=ha cpos pins s1 σ H1 _ I1 q1
 rw[hs]at hA ⊢
 refine Calls.callWith_builtin (by show(false||(backTo cpos (starEach es X.env)).any (·.1))=false;rw[hplain]<;>rfl) (Calls.evalArgs_plain ?_)
 exact thn hA fun us s2 ⟨vs,H2,I2,r2,q2⟩=>hm pins s2 σ H2 x vs v us Q I2 r1 r2 q2
end
end L2
namespace L2
open PySem PySem.Spec PyProof.Rows
noncomputable def MtM(X:Cx)(id:String)(r:V->List V->Hp->VK->Prop):Prop:=
 ∀ (pins:List (Addr×Obj)) (s:Shared) (σ:St) (H:Hp) (x:V) (xs:List V) (v:Value) (us:List Value) (Q:VK),Inv X pins σ H s->dN x v->bL xs us->r x xs H Q ->
   wpAny (model X.prog X.w) X.A (call (.builtin id) (v::us)) (EP X pins σ Q) X.xe s
theorem bL.one:∀ {x:V} {us:List Value},bL [x] us->∃ u,us=[u]/\dN x u
 | _,_,.cons r .nil=>⟨_,rfl,r⟩
theorem bL.two:∀ {x y:V} {us:List Value},bL [x,y] us->∃ u v,us=[u,v]/\dN x u/\dN y v
 | _,_,_,.cons r (.cons q .nil)=>⟨_,_,rfl,r,q⟩
theorem bL.zero:∀ {us:List Value},bL [] us->us=[]
 | _,.nil=>rfl
theorem bL.dropLast{xs:List V}{us:List Value}(h:bL xs us):bL xs.dropLast us.dropLast:=by
 induction h with
 | nil=>exact .nil
 | cons r t ih=>
   cases t with
   | nil=>exact .nil
   | cons q t'=>exact .cons r ih
theorem bL.eraseIdx:∀ {xs:List V} {us:List Value} (i:Nat),bL xs us->bL (xs.eraseIdx i) (us.eraseIdx i)
 | _,_,_,.nil=>.nil
 | _,_,0,.cons _ t=>t
 | _,_,i+1,.cons r t=>.cons r (bL.eraseIdx i t)
theorem bL.reverse{xs:List V}{us:List Value}(h:bL xs us):bL xs.reverse us.reverse:=by
 induction h with
 | nil=>exact .nil
 | cons r t ih=>rw[List.reverse_cons,List.reverse_cons];exact bL.append ih (.cons r .nil)
theorem bL.rep{xs:List V}{us:List Value}(h:bL xs us):∀ k:Nat,bL (List.replicate k xs).flatten (List.replicate k us).flatten
 | 0=>.nil
 | k+1=>by
   rw[List.replicate_succ,List.replicate_succ,List.flatten_cons,List.flatten_cons]
   exact bL.append h (bL.rep h k)
theorem rW{α:Type}:∀ (l:List α) (i:Nat),(l.eraseIdx i).length<=l.length
 | [],_=>Nat.le_refl _
 | _::_,0=>Nat.le_succ _
 | _::r,i+1=>Nat.succ_le_succ (rW r i)
section
variable{X:Cx}{pins:List (Addr×Obj)}{σ:St}{H:Hp}{s:Shared}{l b:Addr}{xs ys zs:List V}
theorem Inv.lset{its its':List Value}{n:Nat}{f:Array Value->Array Value}{t':Nat}(I:Inv X pins σ H s)(hH:H l=some (.lst xs))
  (e:s.heap.get? l=some {cls:=.type "list",data:=.seq its.toArray n}) (hf:f its.toArray=its'.toArray) (hv:bL ys its') (hz:ys.length<=sizeLine) :
  Inv X pins σ (upd H l (.lst ys)) {s with heap:=s.heap.update l (Obj.mapSeq f),toks:=t'}:=by
 have q:=PySem.IsL.update e f
 rw[hf]at q
 refine I.write (x:=l) (e:=l) (by rw[hH];exact trivial) (.inl rfl) (fun b' u hb hu=>(Heap.get?_update_other s.heap (Obj.mapSeq f) (Ne.symm hb)).trans hu) ⟨_,q⟩ ?_
 exact⟨hz,its',_,hv,q⟩
theorem Inv.lnew{its:List Value}{t':Nat}(I:Inv X pins σ H s)(hv:bL ys its)(hz:ys.length<=sizeLine) :
  Inv X pins σ (upd H s.heap.objs.size (.lst ys)) {s with heap:=s.heap.push {cls:=.type "list",data:=.seq its.toArray},toks:=t'}:=
 I.laid (fun _ _ q=>Heap.get?_push_of_some _ q) (Nat.le_refl _) ⟨hz,its,0,hv,Heap.get?_push_size _ rfl⟩
theorem Inv.fresh(I:Inv X pins σ H s):H s.heap.objs.size=none:=I.hok.fresh (Nat.le_refl _)
theorem Inv.lstM(I:Inv X pins σ H s)(hH:H l=some (.lst xs)):xs.length<=sizeLine/\∃ (its:List Value) (n:Nat),bL xs its/\xs.length=its.length/\s.heap.get? l=some {cls:=.type "list",data:=.seq its.toArray n}:=by
 obtain⟨z,its,n,r,e⟩:=I.hok l _ hH
 exact⟨z,its,n,r,r.length,e⟩
theorem aW0{n:Nat}(h:n<=sizeLine):Builtin.List.listTooLong n=false:=by
 unfold Builtin.List.listTooLong
 exact decide_eq_false (by omega)
end
section
variable{X:Cx}
noncomputable def aL9:V->List V->Hp->VK->Prop:=fun x vs H Q=>∃ l xs y,x=.ref l/\vs=[y]/\H l=some (.lst xs)/\xs.length < sizeLine/\Q .non (upd H l (.lst (xs++[y])))
theorem lZ:MtM X "list.append" aL9:=by
 intro pins s σ H x vs v us Q I rx rv h
 obtain⟨l,xs,y,rfl,rfl,hH,hz,q⟩:=h
 cases rx
 obtain⟨u,rfl,ru⟩:=rv.one
 obtain⟨z,its,n,r,hl,e⟩:=I.lstM hH
 refine call_meets F.slot_list_append ⟨_,e,rfl⟩ F.entry_list_append (F.args_list_append_2 _ _) (PySem.list_append l its.toArray n u (by rw[List.size_toArray];omega)) ⟨e,?_⟩
 refine⟨.non,_,I.lset (its':=its++[u]) hH e (by simp) (r.append (.cons ru .nil)) ?_,rfl,q⟩
 rw[List.length_append,List.length_singleton]
 omega
noncomputable def bG3:V->List V->Hp->VK->Prop:=fun x vs H Q=>∃ l b xs zs,x=.ref l/\vs=[.ref b]/\H l=some (.lst xs)/\H b=some (.lst zs)/\xs.length+zs.length<=sizeLine/\Q .non (upd H l (.lst (xs++zs)))
theorem bR8:MtM X "list.extend" bG3:=by
 intro pins s σ H x vs v us Q I rx rv h
 obtain⟨l,b,xs,zs,rfl,rfl,hH,hB,hz,q⟩:=h
 cases rx
 obtain⟨u,rfl,ru⟩:=rv.one
 cases ru
 obtain⟨z,its,n,r,hl,e⟩:=I.lstM hH
 obtain⟨z2,its2,n2,r2,hl2,e2⟩:=I.lstM hB
 have hsz:its.toArray.size+its2.toArray.size<=sizeLine:=by rw[List.size_toArray,List.size_toArray];omega
 have hlong:¬ (!its.toArray.isEmpty&&Builtin.List.listTooLong (its.toArray.size+its2.toArray.size))=true:=by
  rw[aW0 hsz,Bool.and_false]
  exact Bool.false_ne_true
 refine call_meets F.slot_list_extend ⟨_,e,rfl⟩ F.entry_list_extend (F.args_list_extend_2 _ _)
  (AutoSeq1.list_extend_list_list_0 l its.toArray n b its2.toArray n2 hlong (by rw[List.size_toArray];omega) (by omega)) ⟨e,e2,?_⟩
 refine⟨.non,_,I.lset (its':=its++its2) hH e (by simp) (r.append r2) ?_,rfl,q⟩
 rw[List.length_append]
 omega
noncomputable def bC0:V->List V->Hp->VK->Prop:=fun x vs H Q=>∃ l xs i k y,x=.ref l/\vs=[.int i]/\H l=some (.lst xs) /\ -(2 ^ 63)<=i/\i < 2 ^ 63/\seqIndex? i xs.length=some k/\xs[k]? = some y/\Q y (upd H l (.lst (xs.eraseIdx k)))
theorem aW1:MtM X "list.pop" bC0:=by
 intro pins s σ H x vs v us Q I rx rv h
 obtain⟨l,xs,i,k,y,rfl,rfl,hH,h1,h2,hk,hy,q⟩:=h
 cases rx
 obtain⟨u,rfl,ru⟩:=rv.one
 obtain⟨t,rfl⟩:=ru
 obtain⟨z,its,n,r,hl,e⟩:=I.lstM hH
 obtain⟨w,hw,rw'⟩:=r.get hy
 refine call_meets F.slot_list_pop ⟨_,e,rfl⟩ F.entry_list_pop (F.args_list_pop_2 _ _)
  (MeetsSeq.list_pop_at l its.toArray n i t k w (fitsIndex_both h1 h2) (by rw[List.size_toArray,← hl];exact hk) (by rw[← Array.getElem?_toList];exact hw) (by rw[List.size_toArray];omega)) ⟨e,?_⟩
 refine⟨y,_,I.lset (its':=its.eraseIdx k) hH e ?_ (r.eraseIdx k) ?_,rw',q⟩
 ·show its.toArray.eraseIdxIfInBounds k=(its.eraseIdx k).toArray
  rw[List.eraseIdxIfInBounds_toArray]
 ·have:=rW xs k
  omega
noncomputable def cH5:R2:=fun x y H Q=>∃ l b xs zs,x=.ref l/\y=.ref b/\H l=some (.lst xs)/\H b=some (.lst zs)/\xs.length+zs.length<=sizeLine/\∀ p,H p=none->Q (.ref p) (upd H p (.lst (xs++zs)))
theorem bR9:OpR X (binaryOp .Add) cH5:=by
 intro pins s σ H x y v u Q I rx ry h
 obtain⟨l,b,xs,zs,rfl,rfl,hH,hB,hz,q⟩:=h
 cases rx
 cases ry
 obtain⟨z,its,n,r,hl,e⟩:=I.lstM hH
 obtain⟨z2,its2,n2,r2,hl2,e2⟩:=I.lstM hB
 refine PySem.P.add_list e e2 ?_ (by rw[List.size_toArray,List.size_toArray];omega)
 have ea:its.toArray++its2.toArray=(its++its2).toArray:=by simp
 rw[ea]
 exact⟨.ref _,_,I.lnew (t':=s.toks) (r.append r2) (by rw[List.length_append];omega),rfl,q _ I.fresh⟩
end
section
variable{prog:Program}{w:World}{A:Around}{E:Value->Shared->Prop}{s:Shared}
set_option maxRecDepth 100000 in
end
section
variable{X:Cx}
end
end L2
namespace Att
open PySem PySem.W PySem.Calls PyProof.Rows
theorem mB{P:Params}{h:Heap}:∀ (ns:List Int) (vs:List Value),WellAll P h vs (ns.map WData.int)->IntsAre vs ns:=by
 intro ns
 induction ns with
 | nil=>
   intro vs w
   rw[List.map_nil]at w
   cases w
   exact .nil
 | cons n ns ih=>
   intro vs w
   rw[List.map_cons]at w
   cases w with
   | cons a b=>
     cases a
     exact .cons _ _ (ih _ b)
theorem aM0{l:OpenLaw}{n:Nat}(hn:l.most=some n){P:Params}{h:Heap}{args:List WData}{vals:List Value}
  (hpre:l.row.toRowW.claim.pre args=true) (hwl:WellAll P h vals args) :
  ∃ a vs ns,vals=[Value.ref a]/\args=[WData.list (ns.map WData.int)]/\h.get? a=some {cls:=.type "list",data:=.seq vs.toArray}/\IntsAre vs ns/\ns.length<=n:=by
 have hsh:WShape.hasAll [] args [.list .int]=true:=(pre_splitW hpre).1
 have hc:l.pre.holds [] {args:=args}=true:=(pre_splitW hpre).2
 obtain⟨d,r,rfl,h1,h2⟩:=hasAllW_cons hsh
 obtain rfl:=hasAllW_nil h2
 obtain⟨xs,rfl,h3⟩:=hasW_list h1
 obtain⟨ns,rfl⟩:=items_int h3
 have hlen:ns.length<=n:=by
  unfold OpenLaw.pre at hc
  have h4:(WTm.not (.lt (.lit (.int (n:Int))) (.len (.arg 0)))).holds [] {args:=[.list (ns.map .int)]}=true:=by
   have h4:=(holds_andW hc).1
   rw[hn]at h4
   exact h4
  have h5:=condW_of h4 (w_not (w_lt w_lit (w_len_list (w_arg rfl))))
  rw[List.length_map]at h5
  refine Nat.le_of_not_lt fun q=>?_
  have q':(n:Int) < ((ns.length:Nat):Int):=by omega
  first
   | (rw[decide_eq_true q']at h5;exact absurd h5 (by decide))
   | (simp at h5;omega)
 cases hwl with
 | cons w1 w2=>
   cases w2
   cases w1 with
   | list ho hall=>exact⟨_,_,ns,rfl,rfl,ho,mB ns _ hall,hlen⟩
theorem aM1(l:OpenLaw)(args:List WData):l.row.toRowW.claim.post args (.bool true) args=true:=
 postW_of (r:=l.row.toRowW) (X:=(true==true))
  (show WShape.has [] (.bool true) .bool=true by first | rfl | decide | simp[WShape.has,WShape.arms,WShape.armsAll])
  (show(WTm.eq .res (.lit (.bool true))).value [] {args:=args,res:=some (.bool true),after:=args}=some (.bool (true==true))from w_eq_bool (w_res rfl) w_lit) rfl
theorem attach_call{l:OpenLaw}{n:Nat}{q:Program}{loose:List Str}{XP:(Str->Option Value)->Heap->Prop}{YP:World->Heap->Prop}{d:DefRec}
  (hn:l.most=some n) (hdf:d.params.defaults=[])
  (call:∀ (w:World) (s₀ s₁:Shared) (mg mb:Str->Option Value) (fa:Addr) (o:Obj) (pm cd doc:Value) (a:Addr) (vs:List Value) (ns:List Int),
   Ground q loose [] XP w s₀ mg mb s₁.heap->YP w s₁.heap ->
   s₁.heap.get? fa=some o->o.data=.func (docDef d.name d.params d.body d.scope pm cd doc)->s₁.heap.CodeRec cd d.name->mg d.name=some (.ref fa) ->
   s₁.heap.get? a=some {cls:=.type "list",data:=.seq vs.toArray}->IntsAre vs ns->ns.length<=n->s₁.gens=#[] ->
   codeAny (model l.prog w) callerA (.call (.ref fa) ⟨[.ref a],[]⟩) (fun r s'=>r=.ok (.ret (.bool true))/\OldK s₁.heap s'.heap/\s'.os=s₁.os/\AllBare s'.gens) s₁) :
  WalkO q loose XP YP l.row.toRowW d [] (fun f vs=>PySem.call f vs):=by
 intro w s₀ s₁ mg mb G Y fa o pm cd doc dV kV ho hd hcd hD hmg hg args vals as hpre hlay hrd hwl hlo
 obtain rfl:dV=.none:=Dflts.none hD hdf
 obtain rfl:kV=.none:=Dflts.noKw hD
 obtain⟨a,vs,ns,rfl,rfl,hobj,hints,hlen⟩:=aM0 hn hpre hwl
 refine enter_call (codeAny_mono (call w s₀ s₁ mg mb fa o pm cd doc a vs ns G Y ho (fd_plain hd) hcd hmg hobj hints hlen hg) fun r s' hq=>?_)
 obtain⟨rfl,h2,h3,h4⟩:=hq
 exact⟨.inl ⟨.bool true,.bool true,[],rfl,fun _=>rfl,.bool true,aM1 l _,fun _=>⟨List.Pairwise.nil,fun _ hm=>(nomatch hm)⟩⟩,h2,h3,h4⟩
section
variable{prog:Program}{w:World}{A:Around}{E:Value->Shared->Prop}{s:Shared}{K:Frag}
end
end Att
namespace L2
open PySem PySem.Spec PyProof.Rows
theorem rX:∀ {vs:List Value} {ns:List Int},IntsAre vs ns->bL (ns.map V.int) vs
 | _,_,.nil=>.nil
 | _,_,.cons n t h=>.cons ⟨t,rfl⟩ (rX h)
noncomputable def bY4(H:Hp):Prop:=∀ b,H b=none\/∃ o xs,H b=some (.frz o (.lst xs))
theorem aW2{P:Program}{w:World}{K:PySem.W.Frag}{mg mb:Str->Option Value}{CX:CXT}{k:Nat}{fa a:Addr}{fd:FuncData}{x:Str}{sp:Sp}{s₁:Shared}{vs:List Value}{ns:List Int}
  (KX:K.In s₁.heap) (hns:s₁.heap.Ns mainGlobals mg) (hb:s₁.heap.Ns builtinsNs mb) (hbb:∀ x:Str,x≠"__name__"->mb x=bootBuiltins x) (hlim:s₁.heap.NoLimit) (hg:s₁.gens=#[])
  (ha:s₁.heap.get? a=some {cls:=.type "list",data:=.seq vs.toArray}) (hi:IntsAre vs ns) (hl:ns.length<=sizeLine) (hr:Room k callerA)
  (F:∀ base:Heap,K.In base->base.Ns mainGlobals mg->FnOk P w K mg base CX k fa fd [x] sp) (hbind:∀ (s:Shared) (u:Value),BindsTo s fd ⟨[u],[]⟩ [(x,u)])
  (hsp:∀ H:Hp,bY4 H->SqL K H a (ns.map V.int)->sp [.ref a] H (fun v _=>v=.bl true) fun _ _ _=>False)
  (hCX:∀ H e s',CX [] H s₁ (fun _ _ _=>False) e s'->False) :
  codeAny (model P w) callerA (.call (.ref fa) ⟨[.ref a],[]⟩) (fun r s'=>r=.ok (.ret (.bool true))/\OldK s₁.heap s'.heap/\s'.os=s₁.os/\AllBare s'.gens) s₁:=by
 have rv:=rX hi
 have lenV:=hi.length
 -- from an abstract heap in which nothing but the script may be tracked
 have core:∀ H:Hp,bY4 H->SqL K H a (ns.map V.int)->HOk P w H s₁.heap->(∀ b,H b≠none->b=a)->(H a≠none->K.lookup a=none) ->
   codeAny (model P w) callerA (.call (.ref fa) ⟨[.ref a],[]⟩) (fun r s'=>r=.ok (.ret (.bool true))/\OldK s₁.heap s'.heap/\s'.os=s₁.os/\AllBare s'.gens) s₁:=by
  intro H hO hS hok hA hK
  have base_of:∀ {b:Addr} {o:Obj},s₁.heap.get? b=some o->H b=none->(aV0 s₁.heap H).get? b=some o:=fun e n=>aV1 e n
  have noA:∀ {b:Addr} {o:Obj} {es:Array DictEntry} {ep:Nat},s₁.heap.get? b=some o->o.data=.dict es ep->H b=none:=fun{b o es ep} e d=>by
   cases q:H b with
   | none=>rfl
   | some u=>
     have e':b=a:=hA b (by rw[q];simp)
     subst e'
     rw[ha]at e;cases e
     have d':Data.seq vs.toArray _=Data.dict es ep:=d
     cases d'
  have nsK:∀ {b:Addr} {m:Str->Option Value},s₁.heap.Ns b m->(aV0 s₁.heap H).Ns b m:=fun{b m} ⟨o,es,ep,e,d,r⟩=>⟨o,es,ep,base_of e (noA e d),d,r⟩
  have hKb:K.In (aV0 s₁.heap H):=fun b o e=>base_of (KX b o e) (by
   cases q:H b with
   | none=>rfl
   | some u=>
     have e':b=a:=hA b (by rw[q];simp)
     subst e'
     rw[hK (by rw[q];simp)]at e;cases e)
  have hM:Mod K mg (aV0 s₁.heap H):=⟨hKb,nsK hns,⟨mb,nsK hb,hbb⟩,let ⟨mc,h1,h2⟩:=hlim;⟨mc,nsK h1,h2⟩⟩
  have e0:Env0 P w K mg (aV0 s₁.heap H) callerA [] s₁ H:=⟨rfl,hM,fun b o e=>bE5 e,Nat.le_of_eq (aK2 _ _),trivial,fun b hb=>absurd (show b∈([]:List Addr)from hb) (by simp),hok,.of_eq hg⟩
  refine codeAny_mono ((F _ hKb (nsK hns)).run callerA [] s₁ H ⟨[.ref a],[]⟩ [.ref a] [.ref a] _ _ hr e0 (hbind s₁ (.ref a)) (.cons rfl .nil) (hsp H hO hS)) fun r s' h=>?_
  cases r with
  | error e=>exact(hCX H e s' h).elim
  | ok fl=>
    cases fl with
    | next=>exact False.elim h
    | brk=>exact False.elim h
    | cont=>exact False.elim h
    | ret u=>
      obtain⟨v,H',os,bare,un,hok',r',q⟩:=h
      have q':v=.bl true:=q
      subst q'
      obtain rfl:u=Value.bool true:=r'
      refine⟨rfl,OldK.of_keep fun b o e=>?_,os,bare⟩
      cases q:H b with
      | none=>exact un.keep b o e q (by intro z;exact absurd (show b∈([]:List Addr)from z) (by simp)) (by simp)
      | some u=>
        rcases hO b with z | ⟨ob,xs,z⟩
        ·rw[q]at z;cases z
        ·have z2:=un.frzs b ob _ z
         obtain⟨e1,_⟩:=hok b _ z
         obtain⟨e2,_⟩:=hok' b _ z2
         rw[e]at e1;cases e1
         exact e2
 cases hk:K.lookup a with
 | some o=>
   -- the script is one of the module's own objects
   have e:=KX a o hk
   rw[ha]at e
   cases e
   refine core (fun _=>none) (fun _=>.inl rfl) (.inr ⟨_,vs.toArray,_,hk,rfl,rfl,rfl,by rw[List.size_toArray,lenV];exact hl,by simpa using rv⟩) (fun b u z=>by have z':(none:Option HO)=some u:=z;cases z') (fun b z=>absurd rfl z) fun z=>absurd rfl z
 | none=>
   refine core (fun b=>if b=a then some (.frz {cls:=.type "list",data:=.seq vs.toArray} (.lst (ns.map V.int)))else none) (fun b=>?_) (.inl (.inr ⟨{cls:=.type "list",data:=.seq vs.toArray},if_pos rfl⟩)) (fun b u z=>?_) (fun b z=>?_) fun _=>hk
   ·by_cases hb:b=a
    ·exact .inr ⟨_,_,if_pos hb⟩
    ·exact .inl (if_neg hb)
   ·by_cases hb:b=a
    ·have z':=(if_pos hb).symm.trans z
     cases z'
     subst hb
     exact⟨ha,by rw[List.length_map];exact hl,vs,_,rv,ha⟩
    ·have z':=(if_neg hb).symm.trans z
     cases z'
   ·by_cases hb:b=a
    ·exact hb
    ·exact absurd (if_neg hb) z
end L2
namespace L2
open PySem PySem.Spec PyProof.Rows
theorem bG4{l:PySem.W.OpenLaw}{n k:Nat}{q:Program}{loose:List Str}{XP:(Str->Option Value)->Heap->Prop}{YP:World->Heap->Prop}{d:DefRec}{K:Params->PySem.W.Frag}{CX:World->CXT}{sp:World->Sp}{x:Str}
  (hn:l.most=some n) (hn2:n<=sizeLine) (hdf:d.params.defaults=[]) (hr:Room k callerA)
  (hY:∀ (w:World) (h:Heap),YP w h->(K w.params).In h)
  (F:∀ (w:World) (mg:Str->Option Value) (fa:Addr) (h:Heap),(K w.params).In h->h.Ns mainGlobals mg->mg d.name=some (.ref fa) ->
   ∃ fd:FuncData,(∀ (s:Shared) (u:Value),BindsTo s fd ⟨[u],[]⟩ [(x,u)]) /\
     ∀ base:Heap,(K w.params).In base->base.Ns mainGlobals mg->FnOk l.prog w (K w.params) mg base (CX w) k fa fd [x] (sp w))
  (hsp:∀ (w:World) (H:Hp) (a:Addr) (ns:List Int),ns.length<=n->bY4 H->SqL (K w.params) H a (ns.map V.int)->sp w [.ref a] H (fun v _=>v=.bl true) fun _ _ _=>False)
  (hCX:∀ (w:World) (H:Hp) (s:Shared) (e:Value) (s':Shared),CX w [] H s (fun _ _ _=>False) e s'->False) :
  PySem.W.WalkO q loose XP YP l.row.toRowW d [] (fun f vs=>PySem.call f vs):=by
 refine Att.attach_call hn hdf fun w s₀ s₁ mg mb fa o pm cd doc a vs ns G Y ho hd hcd hmg hobj hints hlen hg=>?_
 have KX:=hY w _ Y
 obtain⟨fd,hb,hF⟩:=F w mg fa _ KX G.T.g hmg
 exact aW2 KX G.T.g G.T.b G.T.builtins G.T.nolimit hg hobj hints (Nat.le_trans hlen hn2) hr hF hb (fun H hO hS=>hsp w H a ns hlen hO hS) fun H e s'=>hCX w H s₁ e s'
end L2
namespace L2
open PySem PySem.Spec PyProof.Rows
noncomputable def yN(s:Stmt):Arguments:=match s with
 | .FunctionDef _ a _ _ _ _ _ _ _ _=>a
 | _=>{posonlyargs:=[],args:=[],vararg:=none,kwonlyargs:=[],kw_defaults:=[],kwarg:=none,defaults:=[]}
noncomputable def jX(s:Stmt):List Stmt:=match s with
 | .FunctionDef _ _ b _ _ _ _ _ _ _=>b
 | _=>[]
noncomputable def aO(s:Stmt):Scope:=match s with
 | .FunctionDef _ _ _ _ _ _ sc _ _ _=>sc
 | _=>{kind:=.function,names:=[],isGenerator:=false,isCoroutine:=false}
noncomputable abbrev CX0:CXT:=fun _ _ _ _ _ _=>False
noncomputable abbrev E0:XK:=fun _ _ _=>False
theorem bJ{X:Cx}:aL5 CX0 X E0:=fun _ _ _ _ _ _ _ h=>h.elim
structure Fun(K:PySem.W.Frag)(x qual:Str)(st:Stmt)(f:Addr)(fd:FuncData):Prop where
 ex:∃ (oc:Value) (od:Option Addr) (kV doc pm:Value) (an:Option Addr) (cdv ct:Value) (osl:Array (Option Value)),
  fd=PySem.W.fnOf x qual (yN st) (jX st) (aO st) .none kV doc pm an cdv ct/\K.lookup f=some ⟨oc,od,.func fd,osl⟩/\PySem.W.codeIn K cdv qual=true
 kp:PySem.W.keepIn K (.ref f)=true
section
variable{P:Program}{w:World}{K:PySem.W.Frag}{mg:Str->Option Value}{base:Heap}
theorem Fun.ok{x qual:Str}{st:Stmt}{f:Addr}{fd:FuncData}{N ps:List Str}{k:Nat}{sp:Sp}(F:Fun K x qual st f fd)(S:FnScope N ps (aO st))(len:∀ vs H Q E,sp vs H Q E->vs.length=ps.length)
  (hbody:∀ (cdv:Value) (A:Around) (outer:List Env) (s:Shared) (H:Hp) (vs:List V) (Q:VK) (E:XK),Room k (A.deeper (envOfC qual (aO st) s.heap.objs.size f cdv))->sp vs H Q E ->
   ∃ t,PSs (bB9 CX0 P w K mg base N qual (aO st) f cdv A outer s H E).nox (jX st) t/\t {nx:=fun _ H'=>Q .non H',rt:=Q} (fV N vs) H):FnOk P w K mg base CX0 (k+1) f fd ps sp:=by
 obtain⟨oc,od,kV,doc,pm,an,cdv,ct,osl,rfl,lk,hcd⟩:=F.ex
 refine bR0 lk hcd S len fun A outer s H vs Q E hr hsp=>?_
 obtain⟨t,h,q⟩:=hbody cdv A outer s H vs Q E hr hsp
 exact⟨t,h.nox,q⟩
theorem Fun.binds{x qual:Str}{st:Stmt}{f:Addr}{fd:FuncData}{ps:List Str}(F:Fun K x qual st f fd)
  (h:∀ (kV doc pm:Value) (an:Option Addr) (cdv ct:Value) (us:List Value),us.length=ps.length->bindArgs (PySem.W.fnOf x qual (yN st) (jX st) (aO st) .none kV doc pm an cdv ct) ⟨us,[]⟩=pure (ps.zip us)):eZ K fd ps []:=by
 obtain⟨oc,od,kV,doc,pm,an,cdv,ct,osl,rfl,lk,hcd⟩:=F.ex
 exact .all (h kV doc pm an cdv ct)
end
section
variable{X:Cx}
theorem pv(i:Nat){x:Str}{pos:Pos}(hN:X.N[i]? = some x:=by rfl)(hv:Vis X.env.scope x:=by first | exact Or.inl rfl | exact Or.inr (Or.inl rfl) | exact Or.inr (Or.inr rfl))(hd:(x==("__debug__":Str))=false:=by decide)
  (hcd:(x==("__classdict__":Str))=false:=by decide):PE X (.Name x pos) (bO7 i):=bO8 hN hv hd hcd
end
noncomputable def Same(H H':Hp):Prop:=∀ b o,H b=some o->H' b=some o
theorem Same.refl(H:Hp):Same H H:=fun _ _ h=>h
theorem Same.trans{H H1 H2:Hp}(a:Same H H1)(b:Same H1 H2):Same H H2:=fun c o h=>b c o (a c o h)
theorem Same.free{H H':Hp}(e:Same H H'){l:Addr}(h:H' l=Option.none):H l=Option.none:=by
 cases q:H l with
 | none=>rfl
 | some o=>
   rw[e l o q]at h
   cases h
theorem Same.seq{K:PySem.W.Frag}{H H':Hp}{a:Addr}{xs:List V}(e:Same H H')(h:SqL K H a xs):SqL K H' a xs:=by
 rcases h with(h | ⟨o,h⟩) | h
 ·exact .inl (.inl (e _ _ h))
 ·exact .inl (.inr ⟨o,e _ _ h⟩)
 ·exact .inr h
end L2
namespace L2
open PySem PySem.Spec PyProof.Rows
theorem aH1{scope:Scope}{env:Env}(h:∀ y∈scope.names,y.2=.free->∃ c,env.cells.lookup y.1=some c) :
  ∃ cl:List (Str×Addr),closureFor scope env=pure cl/\(∀ x c,cl.lookup x=some c->env.cells.lookup x=some c)/\∀ y∈scope.names,y.2=.free->∃ c,cl.lookup y.1=some c:=by
 have key:∀ (l:List (Str×NameKind)) (acc:List (Str×Addr)),(∀ y∈l,y.2=.free->∃ c,env.cells.lookup y.1=some c)->(∀ x c,acc.lookup x=some c->env.cells.lookup x=some c) ->
   ∃ cl:List (Str×Addr),((forIn l acc fun(x:Str×NameKind) (r:List (Str×Addr))=>if(x.2==NameKind.free)=true then do let a ← cellOf env x.1;pure (ForInStep.yield ((x.1,a)::r))else pure (ForInStep.yield r)):Sem (List (Str×Addr)))=pure cl /\
     (∀ x c,cl.lookup x=some c->env.cells.lookup x=some c)/\(∀ x c,acc.lookup x=some c->∃ d,cl.lookup x=some d)/\∀ y∈l,y.2=.free->∃ c,cl.lookup y.1=some c:=by
  intro l
  induction l with
  | nil=>intro acc _ ha;exact⟨acc,rfl,ha,fun x c e=>⟨c,e⟩,fun _ hy=>nomatch hy⟩
  | cons y r ih=>
    intro acc hl ha
    obtain⟨n,k⟩:=y
    rw[List.forIn_cons]
    by_cases hk:(k==NameKind.free)=true
    ·have hk':k=.free:=by simpa using hk
     obtain⟨c,hc⟩:=hl (n,k) List.mem_cons_self hk'
     have e1:cellOf env n=pure c:=by unfold cellOf;rw[hc]
     obtain⟨cl,e,p1,p2,p3⟩:=ih ((n,c)::acc) (fun y hy=>hl y (List.mem_cons_of_mem _ hy)) (fun x d e=>by
      rw[List.lookup_cons]at e
      split at e
      ·rename_i hx
       have:x=n:=by simpa using hx
       cases e;rw[this];exact hc
      ·exact ha x d e)
     have has:∃ d,cl.lookup n=some d:=p2 n c (by rw[List.lookup_cons];simp)
     refine⟨cl,?_,p1,fun x d e=>?_,fun y hy hf=>?_⟩
     ·simp only[hk,if_true,e1]
      exact e
     ·by_cases hx:x=n
      ·subst hx;exact has
      ·exact p2 x d (by rw[List.lookup_cons];have:(x==n)=false:=by simpa using hx
                        rw[this];exact e)
     ·rcases List.mem_cons.mp hy with rfl | hy
      ·exact has
      ·exact p3 y hy hf
    ·obtain⟨cl,e,p1,p2,p3⟩:=ih acc (fun y hy=>hl y (List.mem_cons_of_mem _ hy)) ha
     refine⟨cl,?_,p1,p2,fun y hy hf=>?_⟩
     ·simp only[hk]
      exact e
     ·rcases List.mem_cons.mp hy with rfl | hy
      ·exact absurd (by simpa using hf) hk
      ·exact p3 y hy hf
 obtain⟨cl,e,p1,_,p3⟩:=key scope.names [] h (fun x c e=>nomatch e)
 refine⟨cl,?_,p1,p3⟩
 unfold closureFor
 simp only[bind_pure]
 exact e
theorem gP{α:Type}{x n:Str}{v:α}{r:List (Str×α)}(h:(x==n)=true):List.lookup x ((n,v)::r)=some v:=by rw[List.lookup_cons,h]
theorem dO{α:Type}{x n:Str}{v:α}{r:List (Str×α)}(h:(x==n)=false):List.lookup x ((n,v)::r)=List.lookup x r:=by rw[List.lookup_cons,h]
theorem bC1{scope:Scope}{env:Env}{x:Str}(h:(relabel scope env).names.lookup x=some .cell\/(relabel scope env).names.lookup x=some .free)(hc:∀ y∈scope.names,y.2≠.cell) :
  (x,NameKind.free)∈scope.names:=by
 unfold relabel at h
 dsimp only at h
 revert h hc
 generalize scope.names=l
 intro h hc
 induction l with
 | nil=>rcases h with h | h<;>cases h
 | cons y r ih=>
   obtain⟨n,k⟩:=y
   rw[List.map_cons]at h
   dsimp only at h
   have ih':=fun h=>ih h fun y hy=>hc y (List.mem_cons_of_mem _ hy)
   have hkc:k≠.cell:=hc (n,k) List.mem_cons_self
   by_cases hk:(k==NameKind.free&&env.scope.kind==.function&&env.kindOf n==some .cell)=true
   ·have hkf:k=.free:=by
     simp only[Bool.and_eq_true,beq_iff_eq]at hk
     exact hk.1.1
    rw[if_pos hk]at h
    cases hx:x==n with
    | true=>
      have hxn:x=n:=by simpa using hx
      subst hxn hkf
      exact List.mem_cons_self
    | false=>
      rw[dO hx]at h
      exact List.mem_cons_of_mem _ (ih' h)
   ·rw[if_neg hk]at h
    cases hx:x==n with
    | true=>
      have hxn:x=n:=by simpa using hx
      rw[gP hx]at h
      subst hxn
      rcases h with h | h
      ·exact absurd (Option.some.inj h) hkc
      ·rw[Option.some.inj h];exact List.mem_cons_self
    | false=>
      rw[dO hx]at h
      exact List.mem_cons_of_mem _ (ih' h)
theorem jB{scope:Scope}{env:Env}{x:Str}(h:(relabel scope env).names.lookup x=some .cell\/(relabel scope env).names.lookup x=some .free) :
  (x,NameKind.free)∈scope.names\/scope.names.lookup x=some .cell:=by
 unfold relabel at h
 dsimp only at h
 revert h
 generalize scope.names=l
 intro h
 induction l with
 | nil=>rcases h with h | h<;>cases h
 | cons y r ih=>
   obtain⟨n,k⟩:=y
   rw[List.map_cons]at h
   dsimp only at h
   by_cases hk:(k==NameKind.free&&env.scope.kind==.function&&env.kindOf n==some .cell)=true
   ·have hkf:k=.free:=by
     simp only[Bool.and_eq_true,beq_iff_eq]at hk
     exact hk.1.1
    rw[if_pos hk]at h
    cases hx:x==n with
    | true=>
      have hxn:x=n:=by simpa using hx
      subst hxn hkf
      exact .inl List.mem_cons_self
    | false=>
      rw[dO hx]at h
      rcases ih h with z | z
      ·exact .inl (List.mem_cons_of_mem _ z)
      ·exact .inr (by rw[dO hx];exact z)
   ·rw[if_neg hk]at h
    cases hx:x==n with
    | true=>
      have hxn:x=n:=by simpa using hx
      rw[gP hx]at h
      subst hxn
      rcases h with h | h
      ·exact .inr (by rw[gP hx];exact h)
      ·rw[Option.some.inj h];exact .inl List.mem_cons_self
    | false=>
      rw[dO hx]at h
      rcases ih h with z | z
      ·exact .inl (List.mem_cons_of_mem _ z)
      ·exact .inr (by rw[dO hx];exact z)
theorem cJ:∀ (names:List (Str×NameKind)) (n:Nat) (acc:List (Str×Addr)),cellsFrom n names acc=cellsFrom n names []++acc
 | [],n,acc=>rfl
 | (x,k)::r,n,acc=>by
   unfold cellsFrom
   split
   ·rw[cJ r (n+1) ((x,n)::acc),cJ r (n+1) [(x,n)],List.append_assoc];rfl
   ·exact cJ r n acc
theorem fW:∀ (names:List (Str×NameKind)) (n:Nat) (x:Str) (c:Addr),(x,c)∈cellsFrom n names []->(x,NameKind.cell)∈names
 | [],n,x,c,h=>nomatch h
 | (y,k)::r,n,x,c,h=>by
   unfold cellsFrom at h
   split at h
   ·rename_i hk
    have hk':k=.cell:=by simpa using hk
    rw[cJ]at h
    rcases List.mem_append.mp h with z | z
    ·exact List.mem_cons_of_mem _ (fW r _ x c z)
    ·have e:=List.mem_singleton.mp z
     cases e;rw[hk'];exact List.mem_cons_self
   ·exact List.mem_cons_of_mem _ (fW r _ x c h)
theorem cU:∀ (names:List (Str×NameKind)) (n:Nat) (x:Str),(x,NameKind.cell)∈names->∃ c,(cellsFrom n names []).lookup x=some c
 | [],n,x,h=>nomatch h
 | (y,k)::r,n,x,h=>by
   have key:∀ m,(x,NameKind.cell)∈r->∃ c,(cellsFrom m r []).lookup x=some c:=fun m hm=>cU r m x hm
   unfold cellsFrom
   split
   ·rename_i hk
    rw[cJ,List.lookup_append]
    rcases List.mem_cons.mp h with z | z
    ·cases z
     cases e:(cellsFrom (n+1) r []).lookup y with
     | some c=>exact⟨c,rfl⟩
     | none=>exact⟨n,by simp⟩
    ·obtain⟨c,hc⟩:=key (n+1) z
     exact⟨c,by rw[hc];rfl⟩
   ·rename_i hk
    rcases List.mem_cons.mp h with z | z
    ·cases z;exact absurd rfl hk
    ·exact key n z
theorem bG5{M:Model}{A:Around}{E:Value->Shared->Prop}{s:Shared}{scope:Scope}{globals:Addr}{cl:List (Str×Addr)}{qual:Str}{env:Env}{Q:Env->Shared->Prop}
  (hQ:Q (newEnv scope s.heap.objs.size globals (cellsFrom (s.heap.objs.size+1) scope.names cl) qual none .none (some env) builtinsNs) {s with heap:=pushCells (s.heap.push {cls:=.type "dict",data:=.dict #[]}) scope.names}) :
  wpAny M A (newFunctionEnv scope globals cl [] qual none .none (some env)) Q E s:=by
 simp only[newFunctionEnv,Option.isSome_some,if_true]
 refine wpAny_bind (wpAny_alloc ?_)
 refine wpAny_bind (wpAny_layCells _ (fun name kind cells=>by cases hkc:kind==NameKind.cell<;>simp[hkc]) _ _ _ _ ?_)
 rw[show({s with heap:=s.heap.push {cls:=.type "dict",data:=.dict #[]}}:Shared).heap.objs.size=s.heap.objs.size+1 from Heap.size_push ..]
 refine wpAny_bind ?_
 rw[List.forIn_nil]
 exact wpAny_pure (wpAny_pure hQ)
theorem qL{scope:Scope}{env:Env}{x:Str}(h:(relabel scope env).names.lookup x=some .local):scope.names.lookup x=some .local:=by
 unfold relabel at h
 dsimp only at h
 revert h
 generalize scope.names=l
 intro h
 induction l with
 | nil=>cases h
 | cons y r ih=>
   obtain⟨n,k⟩:=y
   rw[List.map_cons]at h
   dsimp only at h
   by_cases hk:(k==NameKind.free&&env.scope.kind==.function&&env.kindOf n==some .cell)=true
   ·rw[if_pos hk]at h
    cases hx:x==n with
    | true=>rw[gP hx]at h;cases h
    | false=>rw[dO hx]at h ⊢;exact ih h
   ·rw[if_neg hk]at h
    cases hx:x==n with
    | true=>rw[gP hx]at h ⊢;exact h
    | false=>rw[dO hx]at h ⊢;exact ih h
theorem Inv.adopt{X:Cx}{pins:List (Addr×Obj)}{σ:St}{H:Hp}{s:Shared}{a:Addr}{o:HO}(I:Inv X pins σ H s)(hn:H a=none)(h1:X.s₀.heap.objs.size<=a)(h2:a≠X.env.locals)
  (h3:∀ x c,X.env.cells.lookup x=some c->c≠a) (h4:∀ p∈X.pn++pins,p.1≠a) (new:cT X.prog X.w (upd H a o) s.heap a o):Inv X pins σ (upd H a o) s:=by
 have ne:∀ b u,H b=some u->b≠a:=fun b u e=>aV e hn
 refine⟨I.ok,I.os,I.bare,⟨I.base.keep,I.base.slot,fun b ob q n hx=>?_,I.base.there,fun b xs q=>?_,fun b ob u q=>?_,fun b ps q=>?_⟩,I.loc,I.cell,?_,fun x c e=>?_,fun p hp=>?_,fun b u e=>?_,I.len⟩
 ·rw[aH (Nat.ne_of_lt (Nat.lt_of_lt_of_le (Heap.lt_size q) h1))];exact I.base.free b ob q n hx
 ·have:=I.base.tups b xs q;rw[aH (ne b _ this)];exact this
 ·have:=I.base.frzs b ob u q;rw[aH (ne b _ this)];exact this
 ·obtain⟨m,this⟩:=I.base.tbls b ps q;exact⟨m,by rw[aH (ne b _ this)];exact this⟩
 ·rw[aH (Ne.symm h2)];exact I.free
 ·rw[aH (h3 x c e)];exact I.freeC x c e
 ·obtain⟨e,n,r⟩:=I.pin p hp
  exact⟨e,by rw[aH (h4 p hp)];exact n,r⟩
 ·by_cases hb:b=a
  ·subst hb;rw[aT]at e;cases e;exact new
  ·rw[aH hb]at e
   exact(I.hok b u e).stay (fun c v _ q=>q) (fun c q=>by rw[aH (ne c _ q)];exact q) fun c xs q=>by rw[aH (ne c _ q)];exact q
theorem yO{prog:Program}{w:World}{A:Around}{R:Result->Shared->Prop}{s:Shared}{elt target iter:Expr}{ifs:List Expr}{scope:Scope}{pos:Pos}{it acc:Value}{env:Env}(I:Nat->Shared->Prop)
  (turn:∀ n s,I n s->wpAny (model prog w) A (pyNext it) (fun r s₁=>match r with
   | none=>R (.ok .next) s₁
   | some v=>wpAny (model prog w) A (letOwnedTupleGo target it v) (fun _ s₁'=>wpAny (model prog w) A (assign target env v) (fun _ s₂=>
     wpAny (model prog w) A (forIn ifs true fun c r=>if r=true then do let ok ← isTrue c env (eval c env);pure (ForInStep.yield ok)else pure (ForInStep.yield r)) (fun ok s₃=>
      if ok=true then wpAny (model prog w) A (eval elt env) (fun x s₄=>
       wpAny (model prog w) A (call (.builtin "list.append") [acc,x]) (fun _ s₅=>∃ m,m < n/\I m s₅) (fun _ _=>False) s₄) (fun _ _=>False) s₃
      else ∃ m,m < n/\I m s₃) (fun _ _=>False) s₂) (fun _ _=>False) s₁') (fun _ _=>False) s₁) (fun _ _=>False) s)
  (n:Nat) (h:I n s) :
  codeAny (model prog w) A (.compLoop (.ListComp elt [⟨target,iter,ifs,0⟩] scope pos) 0 it acc env) R s:=by
 refine codeAny_loop rfl I (fun n s hI=>?_) n h
 show wpAny _ A ((compTurn (.ListComp elt [⟨target,iter,ifs,0⟩] scope pos) 0 it acc env).onRaise (fun x=>do noteFrame x env;theTreesLotGoes x)) _ _ s
 refine wpAny_noted ?_
 rw[compTurn_list]
 refine wpAny_bind (wpAny_standAt (wpAny_bind (wpAny_mono (turn n s hI) (fun r s₁ h₁=>?_) fun _ _ h'=>h'.elim)))
 cases r with
 | none=>exact wpAny_pure h₁
 | some v=>
   refine wpAny_bind (wpAny_mono h₁ (fun _ s₁' h₁=>?_) fun _ _ h'=>h'.elim)
   refine wpAny_bind (wpAny_mono h₁ (fun _ s₂ h₂=>wpAny_bind (wpAny_mono h₂ (fun ok s₃ h₃=>?_) fun _ _ h'=>h'.elim)) fun _ _ h'=>h'.elim)
   cases ok with
   | true=>
     simp only[if_true]at h₃ ⊢
     refine wpAny_bind (wpAny_bind (wpAny_mono h₃ (fun x s₄ h₄=>wpAny_bind (wpAny_mono h₄ (fun _ s₅ h₅=>wpAny_pure (wpAny_pure ⟨rfl,h₅⟩)) fun _ _ h'=>h'.elim)) fun _ _ h'=>h'.elim))
   | false=>
     simp only[Bool.false_eq_true,if_false]at h₃ ⊢
     first
      | exact wpAny_bind (wpAny_pure (wpAny_pure ⟨rfl,h₃⟩))
      | exact wpAny_pure ⟨rfl,h₃⟩
noncomputable abbrev cxC(X:Cx)(scope:Scope)(cl:List (Str×Addr))(ex:List Addr)(s:Shared)(H:Hp):Cx:=
 {X with s₀:=s,H₀:=H,env:=compEnvC scope cl s.heap.objs.size X.env,outer:=X.stack,ex:=ex,fn:=fun x=>scope.names.lookup x==some .cell,xe:=fun _ _=>False}
noncomputable def blank(own:List Nat)(σ:St):St:=own.foldl (fun σ i=>σ.set i none) σ
theorem kR:∀ (own:List Nat) (σ:St),(blank own σ).length=σ.length
 | [],_=>rfl
 | i::r,σ=>(kR r (σ.set i none)).trans (by simp)
theorem jY:∀ (own:List Nat) (σ:St) (i:Nat) (v:V),(blank own σ)[i]? = some (some v)->i∉own/\σ[i]? = some (some v)
 | [],_,_,_,h=>⟨by simp,h⟩
 | j::r,σ,i,v,h=>by
   obtain⟨h1,h2⟩:=jY r (σ.set j none) i v h
   by_cases e:i=j
   ·subst e
    rw[List.getElem?_set]at h2
    simp at h2
   ·rw[List.getElem?_set_ne (Ne.symm e)]at h2
    exact⟨by simp[e,h1],h2⟩
noncomputable def bY5(own:List Nat)(g:TG):Prop:=∀ x σ H Q,g x σ H Q->g x σ H fun σ' H'=>Q σ' H'/\σ'.length=σ.length/\∀ i,i∉own->σ'[i]? = σ[i]?
theorem bP{own:List Nat}{i:Nat}(h:i∈own):bY5 own (aK4 i):=fun x σ H Q q=>
 ⟨q,by simp,fun j hj=>List.getElem?_set_ne (fun e:i=j=>hj (by rw[← e];exact h))⟩
noncomputable def bG6(X:Cx)(ifs:List Expr)(t:TT):Prop:=
 ∀ (pins:List (Addr×Obj)) (s:Shared) (σ:St) (H:Hp) (Q:Bool->Hp->Prop),Inv X pins σ H s->t σ H Q ->
   wpAny (model X.prog X.w) X.A (forIn ifs true fun c r=>if r=true then do let ok ← isTrue c X.env (eval c X.env);pure (ForInStep.yield ok)else pure (ForInStep.yield r)) (TP X pins σ Q) X.xe s
noncomputable def cB2:TT:=fun _ H Q=>Q true H
theorem aW3{X:Cx}:bG6 X [] cB2:=fun _ _ _ H _ I h=>wpAny_tests_nil ⟨H,I,h⟩
theorem aW4{X:Cx}{c:Expr}{t:TT}(h:PT X c t):bG6 X [c] t:=fun pins s σ H Q I q=>wpAny_tests_one (h pins s σ H Q I q)
structure CompScope(X:Cx)(scope:Scope)(own:List Nat):Prop where
 kind:scope.kind=.function
 cells:∀ y∈scope.names,y.2=.cell->scope.names.lookup y.1=some .cell
 names:∀ y∈scope.names,y.2=.local->scope.names.lookup y.1=some .local
 free:∀ y∈scope.names,y.2=.free->X.env.kindOf y.1=some .cell\/X.env.kindOf y.1=some .free
 own:∀ i x,X.N[i]? = some x->(scope.names.lookup x=some .local\/scope.names.lookup x=some .cell)->i∈own
 calm:X.calm=true
noncomputable def bC2(own:List Nat)(wi:TI)(g:TG)(tt:TT)(te:TE)(σ:St)(H:Hp)(F:List V->Hp->Prop):Prop:=
 wi σ H fun J H1=>∃ W:Nat->Nat->List V->Hp->Prop,(∃ m,W 0 m [] H1)/\∀ i m ys H,W i m ys H->ys.length<=sizeLine /\
  ((J.stop i H/\F ys H)\/(J.go i H/\∀ x H',J.yld i H x H'->g x (blank own σ) H' fun σ2 H2=>tt σ2 H2 fun b H3=>
    if b=true then te σ2 H3 fun v H4=>∃ m',m' < m/\W (i+1) m' (ys++[v]) H4 else ∃ m',m' < m/\W (i+1) m' ys H3))
noncomputable def bG7(own:List Nat)(wi:TI)(g:TG)(tt:TT)(te:TE):TE:=fun σ H Q=>bC2 own wi g tt te σ H fun ys H'=>∀ p,H' p=none->Q (.ref p) (upd H' p (.lst ys))
structure Stray(X:Cx)(pins:List (Addr×Obj))(H:Hp)(b:Addr):Prop where
 un:H b=none
 loc:b≠X.env.locals
 young:X.s₀.heap.objs.size<=b
 cell:∀ x c,X.env.cells.lookup x=some c->c≠b
 pin:∀ p∈X.pn++pins,p.1≠b
theorem Inv.stray{X:Cx}{pins:List (Addr×Obj)}{σ:St}{H H':Hp}{s:Shared}{b:Addr}(I:Inv X pins σ H s)(hb:s.heap.objs.size<=b)(hn:H' b=none):Stray X pins H' b:=by
 obtain⟨h1,h2,h3,h4,h5,h6⟩:=I.fpOk hb hn
 exact⟨h1,h2,Nat.le_trans I.sz hb,h5,h6⟩
set_option maxHeartbeats 8000000 in
theorem aH2{X:Cx}{tg iter elt:Expr}{ifs:List Expr}{scope:Scope}{pos:Pos}{own:List Nat}{g:TG}{tt:TT}{te:TE}{use:Option (Value->Sem Unit)}{Qf:Value->Shared->Prop}
  (S:CompScope X scope own) (hg:∀ cl ex s H,PG (cxC X scope cl ex s H) tg g) (hG:bY5 own g)
  (ht:∀ cl ex s H,bG6 (cxC X scope cl ex s H) ifs tt) (he:∀ cl ex s H,PE (cxC X scope cl ex s H) elt te)
  {pins:List (Addr×Obj)} {s₃:Shared} {σ:St} {H2:Hp} {F:List V->Hp->Prop} {cl:List (Str×Addr)} {J:It} {fp:List Addr} {it D:Addr} {tn:Nat->Heap->Prop} {h₁:Heap} {mC:Str->Option Value} {tk m0:Nat} {W:Nat->Nat->List V->Hp->Prop}
  (I3:Inv X pins σ H2 s₃) (T:Turn X.prog X.w X.K tg J fp it tn) (cl1:∀ x c,cl.lookup x=some c->(X.env.cells.lookup x=some c/\scope.names.lookup x≠some .cell)\/(s₃.heap.objs.size < c/\scope.names.lookup x=some .cell/\h₁.IsCell c none)) (cl2:∀ y∈scope.names,y.2=.free\/y.2=.cell->∃ c,cl.lookup y.1=some c)
  (cl3:∀ x y c,cl.lookup x=some c->cl.lookup y=some c->x=y)
  (f2:∀ b∈fp,aK7 X pins H2 b) (hfpD:∀ b∈fp,b < D) (hDlt:D < s₃.heap.objs.size) (stack_ne:∀ b,b∈frs X.stack->b < D) (hbase:∀ b o,X.base.get? b=some o->b < D) (strD:Stray X pins H2 D)
  (hD3:s₃.heap.get? D=some {cls:=.type "list",data:=.seq ([]:List Value).toArray}) (st3:tn 0 s₃.heap) (hns₁:h₁.Ns s₃.heap.objs.size mC) (old4:∀ b o,s₃.heap.get? b=some o->h₁.get? b=some o)
  (w0:W 0 m0 [] H2) (turn:∀ i m ys H,W i m ys H->ys.length<=sizeLine /\
  ((J.stop i H/\F ys H)\/(J.go i H/\∀ x H',J.yld i H x H'->g x (blank own σ) H' fun σ2 H2=>tt σ2 H2 fun b H3=>
    if b=true then te σ2 H3 fun v H4=>∃ m',m' < m/\W (i+1) m' (ys++[v]) H4 else ∃ m',m' < m/\W (i+1) m' ys H3)))
  (fin:∀ D C ys H' s' m,Inv X pins σ (upd H' D (.lst ys)) s'->H' D=none->s'.heap.Ns C m->Stray X pins (upd H' D (.lst ys)) C->F ys H' ->
   compPost (model X.prog X.w) X.A X.xe use Qf (.ref D) C (.ok .next) s') :
  codeAny (model X.prog X.w) X.A (.compLoop (.ListComp elt [⟨tg,iter,ifs,0⟩] scope pos) 0 (.ref it) (.ref D) (compEnvC scope cl s₃.heap.objs.size X.env))
   (compPost (model X.prog X.w) X.A X.xe use Qf (.ref D) s₃.heap.objs.size) {s₃ with heap:=h₁,toks:=tk}:=by
 have cneD:∀ x c,cl.lookup x=some c->c≠D:=fun x c q=>by
  rcases cl1 x c q with z | z
  ·exact strD.cell x c z.1
  ·exact(Nat.ne_of_lt (Nat.lt_trans hDlt z.1)).symm
 have cneF:∀ b∈fp,∀ x c,cl.lookup x=some c->c≠b:=fun b hb x c q=>by
  rcases cl1 x c q with z | z
  ·exact(f2 b hb).2.2.2.2.1 x c z.1
  ·exact(Nat.ne_of_lt (Nat.lt_trans (Nat.lt_trans (hfpD b hb) hDlt) z.1)).symm
 have okY:(cxC X scope cl (D::fp) s₃ H2).Ok:=by
  refine⟨I3.ok.mod,S.kind,I3.ok.glob,I3.ok.blt,Nat.le_refl _,cl3,fun x hk=>?_,fun x c hf q=>?_,I3.ok.hd,I3.ok.frames,.inl rfl,fun b hb=>?_,fun b o q=>?_,?_,fun b o q hb=>?_,fun b hb hfs=>?_,I3.stack,I3.stkFree⟩
  ·rcases jB hk with z | z
   ·exact cl2 _ z (.inl rfl)
   ·exact cl2 _ (mem_of_lookup z) (.inr rfl)
  ·rcases cl1 x c q with z | z
   ·have hf':scope.names.lookup x=some .cell:=by simpa using hf
    exact absurd hf' z.2
   ·exact Nat.le_of_lt z.1
  ·constructor
   ·show b≠s₃.heap.objs.size
    rcases List.mem_cons.mp hb with z | z
    ·rw[z];exact Nat.ne_of_lt hDlt
    ·exact Nat.ne_of_lt (Nat.lt_trans (hfpD b z) hDlt)
   ·intro x c q
    rcases List.mem_cons.mp hb with z | z
    ·rw[z];exact cneD x c q
    ·exact cneF b z x c q
  ·exact I3.bs b o q
  ·exact Nat.le_trans I3.ok.bsz I3.sz
  ·rcases List.mem_cons.mp hb with z | z
   ·have:=hbase b o q
    rw[z]at this
    exact Nat.lt_irrefl _ this
   ·rcases(f2 b z).2.2.2.1 with y | y
    ·exact I3.ok.noex b o q y
    ·exact Nat.lt_irrefl _ (Nat.lt_of_lt_of_le (Heap.lt_size q) (Nat.le_trans I3.ok.bsz y))
  ·rcases List.mem_cons.mp hb with z | z
   ·have:=stack_ne b hfs
    rw[z]at this
    exact Nat.lt_irrefl _ this
   ·rcases List.mem_cons.mp (I3.stkSub b hfs)with y | y
    ·exact(f2 b z).2.1 y
    ·exact(f2 b z).2.2.1 y
 have IY:Inv (cxC X scope cl (D::fp) s₃ H2) pins (blank own σ) H2 {s₃ with heap:=h₁,toks:=tk}:=by
  refine⟨okY,rfl,I3.bare,Un.kept old4,⟨_,hns₁,fun i x v e1 e2 e3=>?_⟩,fun x c q=>?_,I3.hok.fresh (Nat.le_refl _),fun x c q=>by
   rcases cl1 x c q with z | z
   ·exact I3.freeC x c z.1
   ·exact I3.hok.fresh (Nat.le_of_lt z.1),fun p hp=>?_,I3.hok.kept old4,(kR own σ).trans I3.len⟩
  ·obtain⟨hno,e2'⟩:=jY own σ i v e2
   have hnl:¬ (relabel scope X.env).names.lookup x=some .local:=fun z=>hno (S.own i x e1 (.inl (qL z)))
   have hnc:¬ scope.names.lookup x=some .cell:=fun z=>hno (S.own i x e1 (.inr z))
   have hcf:(relabel scope X.env).names.lookup x=some .cell\/(relabel scope X.env).names.lookup x=some .free:=by
    rcases e3 with z | z | z
    ·exact absurd z hnl
    ·exact .inl z
    ·exact .inr z
   have hmem:=(jB hcf).resolve_right hnc
   have hkX:=S.free _ hmem rfl
   obtain⟨m,hm,hl⟩:=I3.loc
   obtain⟨u,r,lk⟩:=hl i x v e1 e2' (by rcases hkX with z | z;exact .inr (.inl z);exact .inr (.inr z))
   obtain⟨c,hc⟩:=cl2 _ hmem (.inl rfl)
   refine⟨u,r,.inr ⟨hcf,c,hc,?_⟩⟩
   rcases lk with⟨z,_⟩ | ⟨_,c',hc',ic⟩
   ·dsimp only at hkX
    rw[z]at hkX
    rcases hkX with y | y<;>cases y
   ·have:=((cl1 _ c hc).resolve_right fun z=>hnc z.2.1).1
    dsimp only at this
    rw[hc']at this
    cases this
    obtain⟨o,ho,hd⟩:=ic
    exact⟨o,old4 _ _ ho,hd⟩
  ·rcases cl1 x c q with z | z
   ·obtain⟨v,o,ho,hd⟩:=I3.cell x c z.1
    exact⟨v,o,old4 _ _ ho,hd⟩
   ·exact⟨_,z.2.2⟩
  ·obtain⟨q,n,ne,nf,d⟩:=I3.pin p hp
   refine⟨old4 _ _ q,n,Nat.ne_of_lt (Heap.lt_size q),fun hb=>?_,d⟩
   rcases List.mem_cons.mp (I3.stkSub _ hb)with y | y
   ·exact ne y
   ·exact nf y
 have DY:D≠s₃.heap.objs.size:=Nat.ne_of_lt hDlt
 have statY:∀ {H':Hp},(∀ b∈fp,H' b=none)->∀ b∈fp,aK7 (cxC X scope cl (D::fp) s₃ H2) pins H' b:=fun hn b hb=>by
  refine⟨hn b hb,?_,?_,.inl (List.mem_cons_of_mem _ hb),cneF b hb,(f2 b hb).2.2.2.2.2⟩
  ·show b≠s₃.heap.objs.size
   exact Nat.ne_of_lt (Nat.lt_trans (hfpD b hb) hDlt)
  ·intro hfs
   rcases List.mem_cons.mp (I3.stkSub b hfs)with y | y
   ·exact(f2 b hb).2.1 y
   ·exact(f2 b hb).2.2.1 y
 have hDfp:D∉fp:=fun z=>Nat.lt_irrefl _ (hfpD D z)
 have hDstk:D∉frs X.stack:=fun z=>Nat.lt_irrefl _ (stack_ne D z)
 have stat2:∀ {H':Hp} {o:Obj},(∀ b∈fp,H' b=none)->∀ b∈fp,aK7 (cxC X scope cl (D::fp) s₃ H2) (pins++[(D,o)]) H' b:=fun{H' o} fr b hb=>by
  obtain⟨a1,a2,a3,a4,a5,a6⟩:=statY fr b hb
  refine⟨a1,a2,a3,a4,a5,fun p hp z=>?_⟩
  rcases List.mem_append.mp hp with y | y
  ·exact a6 p (List.mem_append_left _ y) z
  ·rcases List.mem_append.mp y with y | y
   ·exact a6 p (List.mem_append_right _ y) z
   ·have e:p=(D,o):=List.mem_singleton.mp y
    rw[e]at z
    have z':D=b:=z
    exact hDfp (by rw[z'];exact hb)
 have pin2:∀ {H':Hp} {s':Shared} {its:Array Value} {k:Nat},Inv (cxC X scope cl (D::fp) s₃ H2) pins (blank own σ) H' s'->H' D=none->s'.heap.get? D=some {cls:=.type "list",data:=.seq its k} ->
   Inv (cxC X scope cl (D::fp) s₃ H2) (pins++[(D,{cls:=.type "list",data:=.seq its k})]) (blank own σ) H' s':=fun{H' s' its k} I4 D4 o4=>I4.pins_of fun p hp=>by
  rcases List.mem_append.mp hp with z | z
  ·exact I4.pin p (List.mem_append_right _ z)
  ·have e:p=(D,{cls:=.type "list",data:=.seq its k}):=List.mem_singleton.mp z
   subst e
   exact⟨o4,D4,DY,hDstk,fun v z=>by cases z⟩
 refine yO (fun n s'=>∃ i ys H' its k,Inv (cxC X scope cl (D::fp) s₃ H2) pins (blank own σ) H' s'/\tn i s'.heap/\(∀ b∈fp,H' b=none)/\H' D=none /\
  s'.heap.get? D=some {cls:=.type "list",data:=.seq its k}/\bL ys its.toList/\W i n ys H') ?_ m0
  ⟨0,[],H2,#[],_,IY,T.keep _ _ _ st3 fun b hb o q=>old4 b o q,fun b hb=>(f2 b hb).1,strD.un,old4 _ _ hD3,.nil,w0⟩
 rintro n s4 ⟨i,ys,H4,its,k,I4,st4,fr4,D4,o4,v4,w4⟩
 obtain⟨hz,step⟩:=turn i n ys H4 w4
 rcases step with⟨stop,qn⟩ | ⟨go,step⟩
 ·refine thn (T.done (cxC X scope cl (D::fp) s₃ H2) rfl rfl rfl S.calm i _ s4 (blank own σ) H4 (fun _ _=>False) (pin2 I4 D4 o4) (stat2 fr4) st4 stop) fun r s5 ⟨hr,I5⟩=>?_
  subst hr
  have oD:s5.heap.get? D=some {cls:=.type "list",data:=.seq its k}:=(I5.pin (D,_) (List.mem_append_right _ (List.mem_append_right _ List.mem_cons_self))).1
  have I5':Inv (cxC X scope cl (D::fp) s₃ H2) pins (blank own σ) H4 s5:=I5.unpinned
  have IX:Inv X pins σ H4 s5:=by
   refine I3.call' (ch:=D::fp) I5'.os I5'.base I5'.hok I5'.bare fun b hb=>?_
   rcases List.mem_cons.mp hb with z | z
   ·rw[z];exact⟨.inr strD.young,strD.loc,strD.cell,strD.pin⟩
   ·obtain⟨a1,a2,a3,a4,a5,a6⟩:=f2 b z
    exact⟨a4,a2,a5,a6⟩
  obtain⟨m5,hm5,_⟩:=I5'.loc
  have nC:H4 s₃.heap.objs.size=none:=I5'.free
  have IX':Inv X pins σ (upd H4 D (.lst ys)) s5:=by
   refine IX.adopt D4 strD.young strD.loc strD.cell strD.pin ⟨hz,its.toList,k,v4,?_⟩
   rw[oD]
  have strC:Stray X pins (upd H4 D (.lst ys)) s₃.heap.objs.size:=I3.stray (Nat.le_refl _) (by rw[aH (Ne.symm DY)];exact nC)
  exact fin D _ ys H4 s5 m5 IX' D4 hm5 strC qn
 ·refine thn (T.item (cxC X scope cl (D::fp) s₃ H2) rfl rfl rfl S.calm i _ s4 (blank own σ) H4 (fun _ _=>False) (pin2 I4 D4 o4) (stat2 fr4) st4 go) fun r s5 ⟨u,hr,h5⟩=>?_
  subst hr
  refine thn h5 fun _ s6 ⟨x,H6,I6,r6,y6,st6,fr6⟩=>?_
  have I6':=I6.pinned (stat2 fr6) (T.obj _ _ st6)
  refine thn (hg cl (D::fp) s₃ H2 _ s6 (blank own σ) H6 x u _ I6' r6 (hG _ _ _ _ (step x H6 y6))) fun _ s7 ⟨σ7,H7,I7,⟨q7,l7,p7⟩⟩=>?_
  refine thn (ht cl (D::fp) s₃ H2 _ s7 σ7 H7 _ I7 q7) fun b s8 ⟨H8,I8,q8⟩=>?_
  have weak:∀ {H9:Hp} {s9:Shared},Inv (cxC X scope cl (D::fp) s₃ H2) ((pins++[(D,{cls:=.type "list",data:=.seq its k})])++lW fp s6.heap) σ7 H9 s9 ->
    Inv (cxC X scope cl (D::fp) s₃ H2) ((pins++[(D,{cls:=.type "list",data:=.seq its k})])++lW fp s6.heap) (blank own σ) H9 s9:=fun I9=>
   I9.weak l7.symm fun j v e=>by rw[p7 j (jY own σ j v e).1];exact e
  have tn9:∀ {H9:Hp} {s9:Shared},Inv (cxC X scope cl (D::fp) s₃ H2) ((pins++[(D,{cls:=.type "list",data:=.seq its k})])++lW fp s6.heap) (blank own σ) H9 s9->tn (i+1) s9.heap/\∀ b∈fp,H9 b=none:=fun I9=>
   ⟨T.keep _ _ _ st6 fun b hb o q=>(I9.pin (b,o) (List.mem_append_right _ (List.mem_append_right _ (iG hb q)))).1,fun b hb=>by
    obtain⟨o,q,d⟩:=T.obj _ _ st6 b hb
    exact(I9.pin (b,o) (List.mem_append_right _ (List.mem_append_right _ (iG hb q)))).2.1⟩
  cases b with
  | true=>
    rw[if_pos rfl]at q8 ⊢
    refine thn (he cl (D::fp) s₃ H2 _ s8 σ7 H8 _ I8 q8) fun y s9 ⟨v9,H9,I9,r9,m',hm',w9⟩=>?_
    have I9':=weak I9
    obtain⟨t9,f9⟩:=tn9 I9'
    have p9:=I9'.pin (D,_) (List.mem_append_right _ (List.mem_append_left _ (List.mem_append_right _ List.mem_cons_self)))
    have hlen:=v4.length
    have hz':its.size<=sizeLine:=by rw[← Array.length_toList];omega
    refine append_at (hsz:=hz') p9.1 fun h' hs' hD'=>?_
    have I9u:Inv (cxC X scope cl (D::fp) s₃ H2) pins (blank own σ) H9 s9:=I9'.unpinned.unpinned
    have I10:Inv (cxC X scope cl (D::fp) s₃ H2) pins (blank own σ) H9 {s9 with heap:=h'}:=
     I9u.turned (it:=D) (t':=s9.toks) (fun b o hb q=>(hs'.2 b hb).trans q) p9.2.1 DY (.inl List.mem_cons_self) cneD strD.pin
    refine⟨m',hm',i+1,ys++[v9],H9,its.push y,k+1,I10,T.keep _ _ _ t9 fun b hb o q=>(hs'.2 b fun z=>hDfp (by rw[← z];exact hb)).trans q,f9,p9.2.1,hD',?_,w9⟩
    rw[Array.toList_push]
    exact v4.append (.cons r9 .nil)
  | false=>
    rw[if_neg Bool.false_ne_true]at q8 ⊢
    obtain⟨m',hm',w9⟩:=q8
    have I9':=weak I8
    obtain⟨t9,f9⟩:=tn9 I9'
    have p9:=I9'.pin (D,_) (List.mem_append_right _ (List.mem_append_left _ (List.mem_append_right _ List.mem_cons_self)))
    exact⟨m',hm',i+1,ys,H8,its,k,I9'.unpinned.unpinned,t9,f9,p9.2.1,p9.1,v4,w9⟩
set_option maxHeartbeats 8000000 in
theorem aM2{X:Cx}{tg iter elt:Expr}{ifs:List Expr}{scope:Scope}{pos pos':Pos}{own:List Nat}{wi:TI}{g:TG}{tt:TT}{te:TE}{use:Option (Value->Sem Unit)}{Qf:Value->Shared->Prop}
  (S:CompScope X scope own) (hi:PI X tg iter wi) (hg:∀ cl ex s H,PG (cxC X scope cl ex s H) tg g) (hG:bY5 own g)
  (ht:∀ cl ex s H,bG6 (cxC X scope cl ex s H) ifs tt) (he:∀ cl ex s H,PE (cxC X scope cl ex s H) elt te)
  {pins:List (Addr×Obj)} {s:Shared} {σ:St} {H:Hp} {F:List V->Hp->Prop} (I:Inv X pins σ H s) (hw:bC2 own wi g tt te σ H F)
  (hs:∀ x,foldedSetIterable iter X.env x=pure x)
  (fin:∀ D C ys H' s' m,Inv X pins σ (upd H' D (.lst ys)) s'->H' D=none->s'.heap.Ns C m->Stray X pins (upd H' D (.lst ys)) C->F ys H' ->
   compPost (model X.prog X.w) X.A X.xe use Qf (.ref D) C (.ok .next) s') :
  wpAny (model X.prog X.w) X.A (comprehension (.ListComp elt [⟨tg,iter,ifs,0⟩] scope pos) scope X.env pos' (newList []) false (eval iter X.env) use) Qf X.xe s:=by
 obtain⟨cl,hcl,cl1,cl2⟩:=aH1 (scope:=scope) (env:=X.env) fun y hy hf=>I.ok.has y.1 (S.free y hy hf)
 refine wpAny_comprehension_free (use:=use) rfl hs hcl S.kind S.names (thn (hi pins s σ H _ I hw) fun v s₁ h₁=>thn h₁ fun itv s₂ h₂=>?_)
 obtain⟨it,fp,tn,J,H2,e,I2,T,st2,f2,W,⟨m0,w0⟩,turn⟩:=h₂
 subst e
 refine wpAny_newObj_type (bG5 ?_)
 dsimp only
 have hsz:(s₂.heap.push {cls:=.type "list",dict:=none,data:=.seq ([]:List Value).toArray}).objs.size=s₂.heap.objs.size+1:=Heap.size_push ..
 have old3:∀ b o,s₂.heap.get? b=some o->(s₂.heap.push {cls:=.type "list",dict:=none,data:=.seq ([]:List Value).toArray}).get? b=some o:=fun b o q=>Heap.get?_push_of_some _ q
 have hD3:(s₂.heap.push {cls:=.type "list",dict:=none,data:=.seq ([]:List Value).toArray}).get? s₂.heap.objs.size=some {cls:=.type "list",dict:=none,data:=.seq ([]:List Value).toArray}:=Heap.get?_push_size _ rfl
 generalize hG3:s₂.heap.push {cls:=.type "list",dict:=none,data:=.seq ([]:List Value).toArray}=G3 at hsz old3 hD3 ⊢
 have hsz4:(G3.push {cls:=.type "dict",data:=.dict #[]}).objs.size=G3.objs.size+1:=Heap.size_push ..
 have hns₁:(pushCells (G3.push {cls:=.type "dict",data:=.dict #[]}) scope.names).Ns G3.objs.size (fun _=>none):=(Heap.Ns.new G3 (.type "dict")).keeps (pushCells_keeps _ _)
 have old4:∀ b o,G3.get? b=some o->(pushCells (G3.push {cls:=.type "dict",data:=.dict #[]}) scope.names).get? b=some o:=fun b o q=>pushCells_keeps _ _ b o (Heap.get?_push_of_some _ q)
 have ok:=cellsFrom_ok scope.names (G3.push {cls:=.type "dict",data:=.dict #[]}) (G3.objs.size+1) [] ⟨fun _ _ hm=>(nomatch hm),List.Pairwise.nil⟩ (by rw[hsz4];exact Nat.le_refl _)
 rw[hsz4]at ok
 generalize pushCells (G3.push {cls:=.type "dict",data:=.dict #[]}) scope.names=h₁ at hns₁ old4 ok ⊢
 have I3:Inv X pins σ H2 {s₂ with heap:=G3}:=I2.kept (t':=s₂.toks) old3
 have look:∀ x,(cellsFrom (G3.objs.size+1) scope.names cl).lookup x=((cellsFrom (G3.objs.size+1) scope.names []).lookup x).or (cl.lookup x):=fun x=>by rw[cJ,List.lookup_append]
 have newc:∀ x c,(cellsFrom (G3.objs.size+1) scope.names []).lookup x=some c->G3.objs.size < c/\scope.names.lookup x=some .cell/\h₁.IsCell c none:=fun x c q=>
  ⟨(ok.empty x c (mem_of_lookup q)).2,S.cells _ (fW _ _ x c (mem_of_lookup q)) rfl,(ok.empty x c (mem_of_lookup q)).1⟩
 have cl1':∀ x c,(cellsFrom (G3.objs.size+1) scope.names cl).lookup x=some c->(X.env.cells.lookup x=some c/\scope.names.lookup x≠some .cell)\/(G3.objs.size < c/\scope.names.lookup x=some .cell/\h₁.IsCell c none):=fun x c q=>by
  rw[look]at q
  cases e:(cellsFrom (G3.objs.size+1) scope.names []).lookup x with
  | some c'=>rw[e]at q;cases q;exact .inr (newc x _ e)
  | none=>
    rw[e]at q
    refine .inl ⟨cl1 x c q,fun z=>?_⟩
    obtain⟨c',hc'⟩:=cU scope.names (G3.objs.size+1) x (mem_of_lookup z)
    rw[e]at hc';cases hc'
 have oldlt:∀ x c,X.env.cells.lookup x=some c->c < G3.objs.size:=fun x c q=>by
  obtain⟨v,o,ho,hd⟩:=I3.cell x c q
  exact Heap.lt_size ho
 have loop:=aH2 (iter:=iter) (elt:=elt) (pos:=pos) (use:=use) (Qf:=Qf) (tk:=s₂.toks) (h₁:=h₁) S hg hG ht he I3 T cl1' (fun y hy hk=>by
   rw[look]
   rcases hk with z | z
   ·obtain⟨c,hc⟩:=cl2 y hy z
    cases e:(cellsFrom (G3.objs.size+1) scope.names []).lookup y.1 with
    | some c'=>exact⟨c',rfl⟩
    | none=>exact⟨c,hc⟩
   ·obtain⟨c,hc⟩:=cU scope.names (G3.objs.size+1) y.1 (by rw[← z];exact hy)
    exact⟨c,by rw[hc];rfl⟩) (fun x y c q1 q2=>by
   rcases cl1' x c q1 with z1 | z1
   ·rcases cl1' y c q2 with z2 | z2
    ·exact I3.ok.inj x y c z1.1 z2.1
    ·exact absurd z2.1 (Nat.not_lt.mpr (Nat.le_of_lt (oldlt x c z1.1)))
   ·rcases cl1' y c q2 with z2 | z2
    ·exact absurd z1.1 (Nat.not_lt.mpr (Nat.le_of_lt (oldlt y c z2.1)))
    ·have m1:(cellsFrom (G3.objs.size+1) scope.names []).lookup x=some c:=by
      obtain⟨c',hc'⟩:=cU scope.names (G3.objs.size+1) x (mem_of_lookup z1.2.1)
      rw[look,hc']at q1;cases q1;exact hc'
     have m2:(cellsFrom (G3.objs.size+1) scope.names []).lookup y=some c:=by
      obtain⟨c',hc'⟩:=cU scope.names (G3.objs.size+1) y (mem_of_lookup z2.2.1)
      rw[look,hc']at q2;cases q2;exact hc'
     exact name_of_addr ok.apart (mem_of_lookup m1) (mem_of_lookup m2)) f2 (fun b hb=>by obtain⟨o,q,_⟩:=T.obj _ _ st2 b hb;exact Heap.lt_size q)
  (by show s₂.heap.objs.size < G3.objs.size;omega) (fun b hb=>by
   rcases List.mem_cons.mp (I2.stkSub b hb)with z | z
   ·rw[z];exact I2.lt
   ·exact Nat.lt_of_not_le fun hle=>I2.nofs hle z)
  (fun b o q=>Heap.lt_size (I2.bs b o q).1) (I2.stray (Nat.le_refl _) (I2.hok.fresh (Nat.le_refl _))) hD3 (T.keep _ _ _ st2 fun b hb o q=>old3 b o q) hns₁ old4 w0 turn fin
 exact codeAny_compStart_list loop (T.self _ 0 _ _ _ (T.keep _ _ _ st2 fun b hb o q=>old4 b o (old3 b o q)) loop)
theorem cV{X:Cx}{tg iter elt:Expr}{ifs:List Expr}{scope:Scope}{pos:Pos}{own:List Nat}{wi:TI}{g:TG}{tt:TT}{te:TE}
  (S:CompScope X scope own) (hi:PI X tg iter wi) (hg:∀ cl ex s H,PG (cxC X scope cl ex s H) tg g) (hG:bY5 own g)
  (ht:∀ cl ex s H,bG6 (cxC X scope cl ex s H) ifs tt) (he:∀ cl ex s H,PE (cxC X scope cl ex s H) elt te)
  (hs:∀ x,foldedSetIterable iter X.env x=pure x:=by intro _;rfl):PE X (.ListComp elt [⟨tg,iter,ifs,0⟩] scope pos) (bG7 own wi g tt te):=by
 intro pins s σ H Q I hw
 rw[eval_ListComp]
 refine aM2 (use:=none) S hi hg hG ht he I hw hs fun D C ys H' s' m IX hD hm str q=>?_
 refine⟨m,hm,fun h' hs'=>⟨.ref D,upd H' D (.lst ys),?_,rfl,q D hD⟩⟩
 exact IX.turned (it:=C) (t':=s'.toks) (fun b o hb e=>(hs'.2 b hb).trans e) str.un str.loc (.inr str.young) str.cell str.pin
end L2
namespace L2
open PySem PySem.Spec PyProof.Rows
section
variable{X:Cx}
theorem aW5(hc:X.calm=true):gN X (.builtin "all") (fun xs H Q=>∃ (a:Addr) (bs:List Bool),xs=[.ref a]/\SqL X.K H a (bs.map V.bl)/\Q (.bl (bs.all id)) H):=by
 intro pins s σ H xs us Q I r h
 obtain⟨a,bs,rfl,ha,q⟩:=h
 obtain⟨u,rfl,ru⟩:=yK r
 cases ru
 obtain⟨its,rv,p,hz⟩:=I.list ha
 have hlt:a < s.heap.objs.size:=by obtain⟨_,e,_⟩:=p.isList;exact Heap.lt_size e
 have hh:X.A.in1.handled=none:=I.ok.hd hc
 refine call_all_walk (wpAny_pyIter_list p.isList ?_)
 refine⟨s.heap.objs.size,[s.heap.objs.size,a],[s.heap.objs.size],its.toArray.size,_,_,fun i=>(bs[i]?).getD true,rfl,Walks.list (A:=X.A.in1) hh _ a (Nat.ne_of_lt hlt) its.toArray,
  ⟨⟨_,Heap.get?_push_size _ rfl,rfl,rfl⟩,p.isList.push _⟩,fun i v s' Q' E' hP hQ=>?_,fun h' tk hk=>?_⟩
 ·have hi:its[i]? = some v:=by simpa using hP
  have hlen:=rv.length
  have hilt:i < its.length:=(List.getElem?_eq_some_iff.mp hi).1
  have hb:i < bs.length:=by rw[List.length_map]at hlen;omega
  obtain⟨u,hu,r2⟩:=rv.get (i:=i) (x:=V.bl bs[i]) (by rw[List.getElem?_map,List.getElem?_eq_getElem hb];rfl)
  rw[hi]at hu;cases hu
  have e:v=Value.bool bs[i]:=r2
  subst e
  simp only[List.getElem?_eq_getElem hb,Option.getD_some]at hQ
  exact wpAny_truthy_bool hQ
 ·have e:((List.range its.toArray.size).all fun i=>(bs[i]?).getD true)=bs.all id:=by
   have hlen:=rv.length
   rw[List.length_map]at hlen
   rw[List.size_toArray,← hlen]
   rw[Bool.eq_iff_iff,List.all_eq_true,List.all_eq_true]
   constructor
   ·intro h1 b hb
    obtain⟨i,hi,rfl⟩:=List.getElem_of_mem hb
    have:=h1 i (List.mem_range.mpr hi)
    simp only[List.getElem?_eq_getElem hi,Option.getD_some]at this
    exact this
   ·intro h1 i hi
    have hi':=List.mem_range.mp hi
    simp only[List.getElem?_eq_getElem hi',Option.getD_some]
    exact h1 _ (List.getElem_mem hi')
  rw[e]
  exact⟨.bl _,H,I.kept (t':=tk) fun b o q=>hk b o (fun hm=>by
   have z:b=s.heap.objs.size:=by simpa using hm
   rw[z]at q;exact Nat.lt_irrefl _ (Heap.lt_size q)) (Heap.get?_push_of_some _ q),rfl,q⟩
noncomputable def Its(x:Str):It:=⟨fun i _=>∃ c,x.cps[i]? = some c,fun i H v H'=>H'=H/\∃ c,x.cps[i]? = some c/\v=.str ⟨#[c]⟩,fun i _=>x.cps[i]? = none⟩
theorem aA9{P:Program}{w:World}{K:PySem.W.Frag}{tg:Expr}(x:Str)(t:Tok)(it:Addr)(ty:String)(hty:ty="str_ascii_iterator"\/ty="str_iterator"):Turn P w K tg (Its x) [it] it (fun i h=>h.IsStrIter it ty x t i) where
 mem:=by simp
 obj:=fun i h st b hb=>by
  have e:b=it:=by simpa using hb
  subst e
  obtain⟨o,e,c,d⟩:=st
  exact⟨o,e,fun v z=>by rw[d]at z;cases z⟩
 keep:=fun i h h' st k=>by
  obtain⟨o,e,c,d⟩:=st
  exact⟨o,k it (by simp) o e,c,d⟩
 item:=by
  intro X hP hw hK hc i pins s σ H E I hf st hg
  subst hP hw hK
  obtain⟨c,hx⟩:=hg
  obtain⟨f0,f1,f2,f3,f4,f5⟩:=hf it (by simp)
  rcases hty with rfl | rfl
  ·refine wpAny_pyNext_ascii_item st hx fun h' st' sb=>?_
   have I1:Inv X pins σ H {s with heap:=h',toks:=s.toks+1}:=I.turned (t':=s.toks+1) (fun b o hb e=>(sb.2 b hb).trans e) f0 f1 f3 f4 f5
   obtain⟨o,e,c',d⟩:=id st'
   exact⟨_,rfl,aK8 (s:={s with heap:=h',toks:=s.toks+1}) e c' d (by decide) ⟨.str ⟨#[c]⟩,H,I1,⟨_,rfl⟩,⟨rfl,c,hx,rfl⟩,st',fun b hb=>(hf b hb).1⟩⟩
  ·refine wpAny_pyNext_wide_item st hx fun h' st' sb=>?_
   have I1:Inv X pins σ H {s with heap:=h',toks:=s.toks+1}:=I.turned (t':=s.toks+1) (fun b o hb e=>(sb.2 b hb).trans e) f0 f1 f3 f4 f5
   obtain⟨o,e,c',d⟩:=id st'
   exact⟨_,rfl,aK8 (s:={s with heap:=h',toks:=s.toks+1}) e c' d (by decide) ⟨.str ⟨#[c]⟩,H,I1,⟨_,rfl⟩,⟨rfl,c,hx,rfl⟩,st',fun b hb=>(hf b hb).1⟩⟩
 done:=by
  intro X hP hw hK hc i pins s σ H E I hf st hg
  subst hP hw hK
  have hx:x.cps[i]? = none:=hg
  obtain⟨f0,f1,f2,f3,f4,f5⟩:=hf it (by simp)
  rcases hty with rfl | rfl
  ·exact wpAny_pyNext_ascii_end (I.ok.hd hc) st hx fun h' eb=>⟨rfl,I.turned (t':=s.toks) (fun b o hb e=>eb b o hb e) f0 f1 f3 f4 f5⟩
  ·exact wpAny_pyNext_wide_end (I.ok.hd hc) st hx fun h' eb=>⟨rfl,I.turned (t':=s.toks) (fun b o hb e=>eb b o hb e) f0 f1 f3 f4 f5⟩
 self:=fun _ _ _ _ _ st h=>by
  rcases hty with rfl | rfl
  ·exact wpAny_pyIter_striter_ascii st h
  ·exact wpAny_pyIter_striter_wide st h
noncomputable def cH6:V->Option Int->Option Int->Hp->VK->Prop:=fun x lo hi H Q=>∃ z,x=.str z/\z.length<=sizeLine/\Q (.str (PySem.Txt.slice z lo hi)) H
theorem bS0:SlR X cH6:=by
 intro pins s σ H x v vl vu lo hi sl Q I rx hs pl pu h
 obtain⟨z,rfl,hz,q⟩:=h
 obtain⟨t,rfl⟩:=rx
 refine⟨"str",_,F.slot_str_getitem.lookup,typeIs_str _ _ _,?_⟩
 have fin:∀ t' k,EP X pins σ Q (.str (PySem.Txt.slice z lo hi) t') {s with toks:=k}:=fun t' k=>⟨.str _,H,I.tok k,⟨t',rfl⟩,q⟩
 have hle:(PySem.Txt.slice z lo hi).length<=sizeLine:=Nat.le_trans (PySem.Txt.slice_le z lo hi) hz
 cases pl with
 | none=>
   cases pu with
   | none=>exact wpAny_getItem_str_slice (l:=none) (u:=none) (st:=none) hs rfl (post_val_or_str ⟨hle,fin⟩)
   | int j t2=>exact wpAny_getItem_str_slice (l:=none) (u:=some (j,t2)) (st:=none) hs rfl (post_val_or_str ⟨hle,fin⟩)
 | int i t1=>
   cases pu with
   | none=>exact wpAny_getItem_str_slice (l:=some (i,t1)) (u:=none) (st:=none) hs rfl (post_val_or_str ⟨hle,fin⟩)
   | int j t2=>exact wpAny_getItem_str_slice (l:=some (i,t1)) (u:=some (j,t2)) (st:=none) hs rfl (post_val_or_str ⟨hle,fin⟩)
theorem aH3{ys:List Str}:∀ {us:List Value},bL (ys.map V.str) us->StrsAre us ys:=by
 induction ys with
 | nil=>intro us r;cases r;exact .nil
 | cons y r ih=>
   intro us h
   cases h with
   | cons h1 h2=>
     obtain⟨t,rfl⟩:=h1
     exact .cons y t (ih h2)
noncomputable def aW6(K:PySem.W.Frag):V->List V->Hp->VK->Prop:=fun x vs H Q=>∃ sep a ys,x=.str sep/\vs=[.ref a]/\SqL K H a (ys.map V.str)/\(ys.map (·.length)).sum+ys.length*sep.length<=16777216/\Q (.str (PySem.Txt.join sep ys)) H
theorem bG8:MtR X "str.join" (aW6 X.K):=by
 intro pins s σ H x vs v us Q I rx rv h
 obtain⟨sep,a,ys,rfl,rfl,ha,hz,q⟩:=h
 obtain⟨t,rfl⟩:=rx
 obtain⟨u,rfl,ru⟩:=rv.one
 cases ru
 obtain⟨its,r,p,_⟩:=I.list ha
 exact join_list p.isList (by simpa using aH3 r) hz fun t' k=>⟨.str _,H,I.tok k,⟨t',rfl⟩,q⟩
theorem yP:gN X (.builtin "isinstance") (fun xs H Q=>∃ x c t b,xs=[x,.ty c]/\TyOf X.K H x t/\PySem.W.kitOne X.K t (.type c)=some b/\Q (.bl b) H):=by
 intro pins s σ H xs us Q I r h
 obtain⟨x,c,t,b,rfl,ty,e,q⟩:=h
 obtain⟨u,w',rfl,ru,rw'⟩:=cA7 r
 cases (show w'=Value.type c from rw')
 exact aL4 I ru ty e fun tk=>⟨.bl b,H,I.tok tk,rfl,q⟩
end
end L2
namespace L2
open PySem PySem.Spec PyProof.Rows
section
variable{σ:St}{H:Hp}{Q:VK}{v x y:V}{n:Nat}{i j:Int}{a b:Bool}{D:Ends}
end
end L2
namespace L2
open PySem PySem.Spec PyProof.Rows
noncomputable def fA(H:Hp)(p:Addr):Option (Bool×List V):=match H p with
 | some (.lst xs)=>some (true,xs)
 | some (.tup xs)=>some (false,xs)
 | some (.frz _ (.lst xs))=>some (true,xs)
 | _=>none
theorem aW7{H:Hp}{p:Addr}{xs:List V}(h:H p=some (.lst xs)):fA H p=some (true,xs):=by unfold fA;rw[h]
theorem cN{H:Hp}{p:Addr}{xs:List V}(h:H p=some (.tup xs)):fA H p=some (false,xs):=by unfold fA;rw[h]
theorem aW8{H:Hp}{p:Addr}{o:Obj}{xs:List V}(h:H p=some (.frz o (.lst xs))):fA H p=some (true,xs):=by unfold fA;rw[h]
theorem iO{K:PySem.W.Frag}{H:Hp}{p:Addr}{xs:List V}(h:fA H p=some (true,xs)):SqL K H p xs:=by
 unfold fA at h
 split at h
 ·rename_i e;cases h;exact .inl (.inl e)
 ·cases h
 ·rename_i o ys e;cases h;exact .inl (.inr ⟨o,e⟩)
 ·cases h
theorem eP{K:PySem.W.Frag}{H:Hp}{p:Addr}{xs:List V}(h:fA H p=some (false,xs)):SqT K H p xs:=by
 unfold fA at h
 split at h
 ·cases h
 ·rename_i e;cases h;exact .inl (.inl e)
 ·cases h
 ·cases h
noncomputable def ixF(H:Hp)(x y:V):Option V:=match x,y with
 | .ref p,.int i=>(fA H p).bind fun q=>atI q.2 i
 | .str z,.int i=>if z.length<=sizeLine then(atI z.cps.toList i).map fun c=>.str ⟨#[c]⟩else none
 | _,_=>none
noncomputable def bY6(H:Hp)(x:V):Option Nat:=match x with
 | .ref p=>(fA H p).map (·.2.length)
 | .str z=>if z.length<=sizeLine then some z.length else none
 | _=>none
noncomputable def cE0:R2:=fun x y H Q=>∃ v,ixF H x y=some v/\Q v H
section
variable{X:Cx}
theorem cH7:IxR X cE0:=by
 intro value slice pins s σ H x y v u Q I rx ry h hs
 obtain⟨z,e,q⟩:=h
 unfold ixF at e
 split at e
 ·rename_i p i
  cases hq:fA H p with
  | none=>rw[hq]at e;cases e
  | some w=>
    obtain⟨b,xs⟩:=w
    rw[hq]at e
    cases b with
    | true=>exact bG1 value slice pins s σ H _ _ v u Q I rx ry ⟨p,xs,i,z,rfl,rfl,iO hq,e,q⟩ hs
    | false=>exact bR4 value slice pins s σ H _ _ v u Q I rx ry ⟨p,xs,i,z,rfl,rfl,eP hq,e,q⟩ hs
 ·rename_i t i
  split at e
  ·rename_i hz
   cases hc:atI t.cps.toList i with
   | none=>rw[hc]at e;cases e
   | some c=>
     rw[hc]at e
     cases e
     exact bR5 value slice pins s σ H _ _ v u Q I rx ry ⟨t,i,c,rfl,rfl,hz,hc,q⟩ hs
  ·cases e
 ·cases e
noncomputable def bS1:List V->Hp->VK->Prop:=fun xs H Q=>∃ x n,xs=[x]/\bY6 H x=some n/\Q (.int n) H
theorem bQ:gN X (.builtin "len") bS1:=by
 intro pins s σ H xs us Q I r h
 obtain⟨x,n,rfl,e,q⟩:=h
 unfold bY6 at e
 split at e
 ·rename_i p
  cases hq:fA H p with
  | none=>rw[hq]at e;cases e
  | some w=>
    obtain⟨b,xs⟩:=w
    rw[hq]at e
    cases e
    cases b with
    | true=>exact kP pins s σ H _ us Q I r ⟨p,xs,rfl,.inl (iO hq),q⟩
    | false=>exact kP pins s σ H _ us Q I r ⟨p,xs,rfl,.inr (eP hq),q⟩
 ·rename_i z
  split at e
  ·rename_i hz
   cases e
   exact rV pins s σ H _ us Q I r ⟨z,rfl,hz,q⟩
  ·cases e
 ·cases e
noncomputable def cE1:V->Option Int->Option Int->Hp->VK->Prop:=fun x lo hi H Q=>match x with
 | .str z=>z.length<=sizeLine/\Q (.str (PySem.Txt.slice z lo hi)) H
 | .ref p=>(∃ xs,fA H p=some (true,xs)/\∀ r,H r=none->Q (.ref r) (upd H r (.lst (yL xs lo hi)))) \/
   ∃ xs,fA H p=some (false,xs)/\¬ (HT.sIx xs.length 0 lo=0/\HT.sIx xs.length xs.length hi=xs.length)/\∀ r,H r=none->Q (.ref r) (upd H r (.tup (yL xs lo hi)))
 | _=>False
theorem cB3:SlR X cE1:=by
 intro pins s σ H x v vl vu lo hi sl Q I rx hs pl pu h
 unfold cE1 at h
 split at h
 ·rename_i z
  exact bS0 pins s σ H _ v vl vu lo hi sl Q I rx hs pl pu ⟨z,rfl,h.1,h.2⟩
 ·rename_i p
  rcases h with⟨xs,hq,q⟩ | ⟨xs,hq,hw,q⟩
  ·exact bG2 pins s σ H _ v vl vu lo hi sl Q I rx hs pl pu ⟨p,xs,rfl,iO hq,q⟩
  ·exact bR2 pins s σ H _ v vl vu lo hi sl Q I rx hs pl pu ⟨p,xs,rfl,eP hq,hw,q⟩
 ·exact h.elim
noncomputable def cE2(K:PySem.W.Frag)(tl:TE):TI:=fun σ H R=>tl σ H fun x H1=>match x with
 | .str z=>R (Its z) H1
 | .ref p=>(∃ xs,fA H1 p=some (true,xs)/\R (Itl K p) H1)\/∃ xs,fA H1 p=some (false,xs)/\R (Itt K p) H1
 | _=>False
theorem bS2{tg l:Expr}{tl:TE}(hl:PE X l tl):PI X tg l (cE2 X.K tl):=by
 intro pins s σ H R I h
 refine thn (hl pins s σ H _ I h) fun v s1 ⟨x,H1,I1,r1,q1⟩=>?_
 dsimp only at q1
 split at q1
 ·rename_i x
  obtain⟨t,rfl⟩:=r1
  cases ha:x.cps.all (· < 128)with
  | true=>
    refine wpAny_pyIter_ascii ha ?_
    refine⟨s1.heap.objs.size,[s1.heap.objs.size],_,_,H1,rfl,I1.kept (t':=s1.toks) fun b o e=>Heap.get?_push_of_some _ e,aA9 x t _ _ (.inl rfl),⟨_,Heap.get?_push_size _ rfl,rfl,rfl⟩,fun b hb=>?_,q1⟩
    have e:b=s1.heap.objs.size:=by simpa using hb
    subst e
    exact I1.fpOk (Nat.le_refl _) (I1.hok.fresh (Nat.le_refl _))
  | false=>
    refine wpAny_pyIter_wide ha ?_
    refine⟨s1.heap.objs.size,[s1.heap.objs.size],_,_,H1,rfl,I1.kept (t':=s1.toks) fun b o e=>Heap.get?_push_of_some _ e,aA9 x t _ _ (.inr rfl),⟨_,Heap.get?_push_size _ rfl,rfl,rfl⟩,fun b hb=>?_,q1⟩
    have e:b=s1.heap.objs.size:=by simpa using hb
    subst e
    exact I1.fpOk (Nat.le_refl _) (I1.hok.fresh (Nat.le_refl _))
 ·rename_i a
  cases r1
  rcases q1 with⟨xs,hq,q⟩ | ⟨xs,hq,q⟩
  ·obtain⟨its,rv,p,hz⟩:=I1.list (iO hq)
   refine wpAny_pyIter_list p.isList ?_
   refine⟨s1.heap.objs.size,[s1.heap.objs.size],_,_,H1,rfl,I1.kept (t':=s1.toks) fun b o e=>Heap.get?_push_of_some _ e,aK9 a _,⟨_,Heap.get?_push_size _ rfl,rfl,rfl⟩,fun b hb=>?_,q⟩
   have e:b=s1.heap.objs.size:=by simpa using hb
   subst e
   exact I1.fpOk (Nat.le_refl _) (I1.hok.fresh (Nat.le_refl _))
  ·obtain⟨its,rv,p,hz⟩:=I1.tuple (eP hq)
   refine wpAny_pyIter_tuple (show s1.heap.IsTuple a its.toArray from p) ?_
   refine⟨s1.heap.objs.size,[s1.heap.objs.size],_,_,H1,rfl,I1.kept (t':=s1.toks) fun b o e=>Heap.get?_push_of_some _ e,aG2 a _,⟨_,Heap.get?_push_size _ rfl,rfl,rfl⟩,fun b hb=>?_,q⟩
   have e:b=s1.heap.objs.size:=by simpa using hb
   subst e
   exact I1.fpOk (Nat.le_refl _) (I1.hok.fresh (Nat.le_refl _))
 ·exact q1.elim
noncomputable def bC3(N:List Str)(sc scope:Scope)(own:List Nat):Bool:=
 (match scope.kind with | .function=>true | _=>false) &&
 scope.names.all (fun y=>match y.2 with
  | .cell=>(match scope.names.lookup y.1 with | some .cell=>true | _=>false)
  | .local=>(match scope.names.lookup y.1 with | some .local=>true | _=>false)
  | .free=>(match sc.names.lookup y.1 with | some .cell=>true | some .free=>true | _=>false)
  | _=>true) &&
 (List.range N.length).all fun i=>match N[i]? with
  | some x=>(match scope.names.lookup x with | some .local=>own.contains i | some .cell=>own.contains i | _=>true)
  | none=>true
theorem csc{scope:Scope}(own:List Nat)(h:bC3 X.N X.env.scope scope own=true)(hc:X.calm=true:=by rfl):CompScope X scope own:=by
 unfold bC3 at h
 rw[Bool.and_eq_true,Bool.and_eq_true]at h
 obtain⟨⟨h1,h2⟩,h3⟩:=h
 rw[List.all_eq_true]at h2 h3
 refine⟨?_,fun y hy e=>?_,fun y hy e=>?_,fun y hy e=>?_,fun i x e1 e2=>?_,hc⟩
 ·revert h1;cases scope.kind<;>simp
 ·have:=h2 y hy;rw[e]at this
  dsimp only at this
  split at this
  ·assumption
  ·cases this
 ·have:=h2 y hy;rw[e]at this
  dsimp only at this
  split at this
  ·assumption
  ·cases this
 ·have:=h2 y hy;rw[e]at this
  dsimp only at this
  show X.env.scope.names.lookup y.1=some .cell\/X.env.scope.names.lookup y.1=some .free
  split at this
  ·rename_i q;exact .inl q
  ·rename_i q;exact .inr q
  ·cases this
 ·have hi:i < X.N.length:=(List.getElem?_eq_some_iff.mp e1).1
  have:=h3 i (List.mem_range.mpr hi)
  rw[e1]at this
  dsimp only at this
  rcases e2 with e2 | e2<;>rw[e2]at this<;>simpa using this
end
end L2
namespace L2
open PySem PySem.Spec PyProof.Rows
structure ItIs(J:It)(xs:List V)(P:Hp->Prop):Prop where
 go:∀ H i x,P H->xs[i]? = some x->J.go i H
 yld:∀ H i x y H',P H->xs[i]? = some x->J.yld i H y H'->H'=H/\y=x
 stop:∀ H i,P H->xs[i]? = none->J.stop i H
theorem aM3{K:PySem.W.Frag}{a:Addr}{xs:List V}:ItIs (Itl K a) xs (fun H=>SqL K H a xs) where
 go:=fun H i x h e=>⟨xs,x,h,e⟩
 yld:=fun H i x y H' h e ⟨e1,e2⟩=>⟨e1,by have:=e2 xs h;rw[e]at this;exact(Option.some.inj this).symm⟩
 stop:=fun H i h e=>⟨xs,h,List.getElem?_eq_none_iff.mp e⟩
theorem aW9{K:PySem.W.Frag}{a:Addr}{xs:List V}:ItIs (Itt K a) xs (fun H=>SqT K H a xs) where
 go:=fun H i x h e=>⟨xs,x,h,e⟩
 yld:=fun H i x y H' h e ⟨e1,e2⟩=>⟨e1,by have:=e2 xs h;rw[e]at this;exact(Option.some.inj this).symm⟩
 stop:=fun H i h e=>⟨xs,h,List.getElem?_eq_none_iff.mp e⟩
noncomputable def bG9(lo:Int)(n:Nat):List V:=(List.range n).map fun(i:Nat)=>V.int (lo+(i:Int))
theorem aB0{lo:Int}{n i:Nat}{x:V}(h:(bG9 lo n)[i]? = some x):i < n/\x=.int (lo+i):=by
 unfold bG9 at h
 rw[List.getElem?_map]at h
 cases e:(List.range n)[i]? with
 | none=>rw[e]at h;cases h
 | some k=>
   rw[e]at h
   obtain⟨hi,hk⟩:=List.getElem?_eq_some_iff.mp e
   rw[List.length_range]at hi
   rw[List.getElem_range]at hk
   subst hk
   exact⟨hi,(Option.some.inj h).symm⟩
theorem yQ(lo:Int)(n:Nat):(bG9 lo n).length=n:=by simp[bG9]
theorem aX0{lo:Int}{n:Nat}{P:Hp->Prop}:ItIs (Itr lo n) (bG9 lo n) P where
 go:=fun H i x _ e=>(aB0 e).1
 yld:=fun H i x y H' _ e ⟨e1,e2⟩=>⟨e1,by rw[(aB0 e).2];exact e2⟩
 stop:=fun H i _ e=>by
  have:=List.getElem?_eq_none_iff.mp e
  rw[yQ]at this
  exact this
noncomputable def dQ(x:Str):List V:=x.cps.toList.map fun c=>.str ⟨#[c]⟩
theorem eI(x:Str):(dQ x).length=x.length:=by simp[dQ,Str.length]
theorem aX1{x:Str}{P:Hp->Prop}:ItIs (Its x) (dQ x) P where
 go:=fun H i v _ e=>by
  unfold dQ at e
  rw[List.getElem?_map]at e
  cases q:x.cps.toList[i]? with
  | none=>rw[q]at e;cases e
  | some c=>exact⟨c,by simpa using q⟩
 yld:=fun H i v y H' _ e ⟨e1,c,e2,e3⟩=>⟨e1,by
  unfold dQ at e
  rw[List.getElem?_map]at e
  have q:x.cps.toList[i]? = some c:=by simpa using e2
  rw[q]at e
  cases e
  exact e3⟩
 stop:=fun H i _ e=>by
  have h1:=List.getElem?_eq_none_iff.mp e
  rw[eI]at h1
  show x.cps[i]? = none
  rw[Array.getElem?_eq_none_iff]
  exact h1
section
variable{σ:St}{H:Hp}{Q:VK}{z:Str}{p q:Addr}{xs ys:List V}{i j:Int}{b:Bool}{v x y:V}
theorem aX2(h:z.length<=sizeLine):bY6 H (.str z)=some z.length:=by show(if z.length<=sizeLine then some z.length else none)=_;rw[if_pos h]
theorem aB1(h:fA H p=some (b,xs)):bY6 H (.ref p)=some xs.length:=by show(fA H p).map (·.2.length)=_;rw[h];rfl
theorem aM4(h:fA H p=some (b,xs))(e:atI xs i=some v):ixF H (.ref p) (.int i)=some v:=by show(fA H p).bind (fun q=>atI q.2 i)=_;rw[h];exact e
theorem bH0{c:Nat}(h:z.length<=sizeLine)(e:atI z.cps.toList i=some c):ixF H (.str z) (.int i)=some (.str ⟨#[c]⟩):=by
 show(if z.length<=sizeLine then(atI z.cps.toList i).map fun c=>V.str ⟨#[c]⟩else none)=_;rw[if_pos h,e];rfl
end
end L2
namespace L2
open PySem PySem.Spec PyProof.Rows
section
variable{σ:St}{H:Hp}{Q:VK}{p:Addr}{xs:List V}{k:Int}{j:Nat}{v:V}
theorem aM5{α:Type}{ys:List α}{i:Int}(h0:0<=i)(h1:i < ys.length):∃ c,atI ys i=some c:=by
 obtain⟨n,rfl⟩:=Int.eq_ofNat_of_zero_le h0
 have hn:n < ys.length:=by omega
 exact⟨ys[n],bG0 (List.getElem?_eq_getElem hn)⟩
theorem yR{α:Type}{ys:List α}{i:Int}{c:α}(h:atI ys i=some c):c∈ys:=by
 obtain⟨j,_,h2,_⟩:=qI h
 exact List.mem_of_getElem? h2
end
end L2
namespace L2
open PySem
end L2
namespace L2
open PySem
theorem yS{α β:Type}{f:α->β}{ys:List α}{i:Int}:atI (ys.map f) i=(atI ys i).map f:=by
 unfold atI
 rw[List.length_map]
 cases ixN ys.length i with
 | none=>rfl
 | some j=>simp
theorem bS{H:Hp}{p:Addr}{o:HO}(h:H p=none):Same H (upd H p o):=fun b u e=>by rw[aH (aV e h)];exact e
end L2
namespace L2
open PySem
end L2
namespace L2
open PySem
theorem bH1(sep:Str)(ys:List Str):(PySem.Txt.join sep ys).length<=(ys.map (·.length)).sum+ys.length*sep.length:=by
 show(PySem.Builtin.Str.glued sep ys).length<=_
 rw[StrLaws.glued_eq_join]
 exact StrLaws.join_length_le sep ys
end L2
namespace L2
theorem up{p q:Prop}(h:p=q)(hq:q):p:=by rw[h];exact hq
end L2
namespace L2
theorem aX3{K:PySem.W.Frag}{t:String}:PySem.W.kitOne K (.type t) (.type t)=some true:=by
 unfold PySem.W.kitOne
 rw[if_pos (by simp)]
end L2
namespace L2
open PySem PySem.Spec PyProof.Rows
section
variable{prog:Program}{w:World}{A:Around}{E:Value->Shared->Prop}
theorem mD{it:Addr}{x:Str}{t:Tok}{ty:String}(hty:ty="str_ascii_iterator"\/ty="str_iterator"):∀ (n i:Nat) (s:Shared) (Q:List Value->Shared->Prop),s.heap.IsStrIter it ty x t i->i+n<=x.length ->
  (∀ h' tk us,h'.IsStrIter it ty x t (i+n)->Heap.SameBut it s.heap h'->bL (((dQ x).drop i).take n) us->Q us {s with heap:=h',toks:=tk})->wpAny (model prog w) A (draw (.ref it) n) Q E s
 | 0,i,s,Q,hit,_,hQ=>by
   show wpAny _ _ (pure []) Q E s
   exact wpAny_pure (by simpa using hQ s.heap s.toks [] hit (Heap.SameBut.refl ..) (by simpa using(.nil:bL [] [])))
 | n+1,i,s,Q,hit,hle,hQ=>by
   have hlt:i < x.cps.size:=by have:x.length=x.cps.size:=rfl;omega
   have hx:x.cps[i]? = some x.cps[i]:=by simp[hlt]
   have hd:(dQ x).drop i=V.str ⟨#[x.cps[i]]⟩::(dQ x).drop (i+1):=by
    rw[List.drop_eq_getElem_cons (by rw[eI];exact hlt)]
    congr 1
    simp[dQ]
   show wpAny _ _ (pyNext (.ref it) >>= _) Q E s
   have go:∀ h₁,h₁.IsStrIter it ty x t (i+1)->Heap.SameBut it s.heap h₁ ->
     wpAny (model prog w) A (match (some (Value.str ⟨#[x.cps[i]]⟩ s.toks))with | none=>pure [] | some v=>do return v::(← holding [v] (draw (.ref it) n))) Q E {s with heap:=h₁,toks:=s.toks+1}:=fun h₁ hit₁ hs₁=>by
    refine wpAny_bind (wpAny_holding (mD hty n (i+1) _ _ hit₁ (by omega) fun h₂ tk us hit₂ hs₂ hv=>wpAny_pure ?_))
    refine hQ h₂ tk _ (by rw[show i+(n+1)=i+1+n by omega];exact hit₂) (hs₁.trans hs₂) ?_
    rw[hd,List.take_succ_cons]
    exact .cons ⟨_,rfl⟩ hv
   rcases hty with rfl | rfl
   ·exact wpAny_bind (wpAny_pyNext_ascii_item hit hx fun h₁ hit₁ hs₁=>go h₁ hit₁ hs₁)
   ·exact wpAny_bind (wpAny_pyNext_wide_item hit hx fun h₁ hit₁ hs₁=>go h₁ hit₁ hs₁)
theorem qM{s:Shared}{x:Str}{t:Tok}{targets:List (Bool×(Value->Sem Unit))}{Q:Unit->Shared->Prop}(hh:A.handled=none)
  (hn:targets.length=x.length) (hstar:targets.findIdx? (·.1)=none)
  (h:∀ h' tk us,Heap.ExtBut s.heap.objs.size s.heap h'->bL (dQ x) us->wpAny (model prog w) A (assignInOrder (targets.map (·.2)) us) Q E {s with heap:=h',toks:=tk}) :
  wpAny (model prog w) A (unpack (.str x t) targets) Q E s:=by
 unfold unpack
 rw[hn,hstar]
 refine wpAny_bind (wpAny_holding ?_)
 unfold unpackItems
 refine wpAny_bind ?_
 unfold notIterableAtAll
 refine wpAny_bind (wpAny_specialOf (typeIs_str _ _ _) PySem.F.slot_str_iter.lookup ?_)
 refine wpAny_pure ?_
 simp only[Bool.false_eq_true,if_false]
 have go:∀ ty,(ty="str_ascii_iterator"\/ty="str_iterator")->wpAny (model prog w) A (do
   let items ← holding [Value.ref s.heap.objs.size] (draw (.ref s.heap.objs.size) x.length)
   if items.length < x.length then
    rule "unpack.too-few";raiseError "ValueError" s!"not enough values to unpack (expected {x.length}, got {items.length})"
   if(← holding items (pyNext (.ref s.heap.objs.size))).isSome then
    rule "unpack.too-many";raiseError "ValueError" s!"too many values to unpack (expected {x.length})"
   return items:Sem (List Value)) (fun us s'=>wpAny (model prog w) A (assignInOrder (targets.map (·.2)) us) Q E s') E {s with heap:=s.heap.push {cls:=.type ty,data:=.fields #[.str x t,.int 0 0]}}:=by
  intro ty hty
  refine wpAny_bind (wpAny_holding (mD (it:=s.heap.objs.size) (x:=x) (t:=t) hty x.length 0 _ _ ⟨_,Heap.get?_push_size _ rfl,rfl,rfl⟩ (by omega) fun h₁ tk us hit₁ hs₁ hv=>?_))
  have hv':bL (dQ x) us:=by
   have e:((dQ x).drop 0).take x.length=dQ x:=by
    rw[List.drop_zero];exact List.take_of_length_le (by rw[eI];exact Nat.le_refl _)
   rw[e]at hv
   exact hv
  have hl:us.length=x.length:=by rw[← hv'.length,eI]
  rw[if_neg (by omega)]
  have hend:x.cps[x.length]? = none:=by simp[Str.length]
  rw[Nat.zero_add]at hit₁
  have fin:∀ h₂,Heap.ExtBut s.heap.objs.size h₁ h₂->wpAny (model prog w) A (do
    if(none:Option Value).isSome then
     rule "unpack.too-many";raiseError "ValueError" s!"too many values to unpack (expected {x.length})"
    return us:Sem (List Value)) (fun us s'=>wpAny (model prog w) A (assignInOrder (targets.map (·.2)) us) Q E s') E {s with heap:=h₂,toks:=tk}:=by
   intro h₂ he₂
   simp only[Option.isSome_none,Bool.false_eq_true,if_false]
   exact wpAny_pure (h h₂ tk us (fun b o hb e=>he₂ b o hb (hs₁.extBut b o hb (Heap.get?_push_of_some _ e))) hv')
  rcases hty with rfl | rfl
  ·exact wpAny_bind (wpAny_holding (wpAny_pyNext_ascii_end hh hit₁ hend fun h₂ he₂=>fin h₂ he₂))
  ·exact wpAny_bind (wpAny_holding (wpAny_pyNext_wide_end hh hit₁ hend fun h₂ he₂=>fin h₂ he₂))
 cases ha:x.cps.all (· < 128)with
 | true=>exact wpAny_bind (wpAny_holding (wpAny_pyIter_ascii ha (go _ (.inl rfl))))
 | false=>exact wpAny_bind (wpAny_holding (wpAny_pyIter_wide ha (go _ (.inr rfl))))
end
section
variable{X:Cx}{pos:Pos}
noncomputable def aX4(K:PySem.W.Frag)(n:Nat)(t:TGs):TG:=fun v σ H Q=>match v with
 | .str z=>z.length=n/\t (dQ z) σ H Q
 | .ref a=>∃ xs,fA H a=some (false,xs)/\xs.length=n/\t xs σ H Q
 | _=>False
theorem bH2{es:List Expr}{k:Nat}{t:TGs}{n:Nat}(hc:X.calm=true)(h:PGs X es t)
  (hn:(assignEach es X.env).length=n:=by rfl) (hst:(assignEach es X.env).findIdx? (·.1)=none:=by rfl):PG X (.Tuple es k pos) (aX4 X.K n t):=by
 intro pins s σ H v u Q I r hw
 unfold aX4 at hw
 split at hw
 ·rename_i z
  obtain⟨hl,hw⟩:=hw
  obtain⟨tk,rfl⟩:=r
  rw[assign_Tuple]
  refine wpAny_bind (wpAny_standAt (qM (I.ok.hd hc) (hn.trans hl.symm) hst fun h' tk us hx hv=>?_))
  have I1:Inv X pins σ H {s with heap:=h',toks:=tk}:=I.kept fun b o e=>hx b o (Nat.ne_of_lt (Heap.lt_size e)) e
  exact h pins _ σ H _ _ Q I1 hv hw
 ·rename_i a
  obtain⟨xs,hq,hl,hw⟩:=hw
  exact bP9 (k:=k) (pos:=pos) hc h hn hst pins s σ H _ u Q I r ⟨a,xs,rfl,eP hq,hl,hw⟩
 ·exact hw.elim
end
section
variable{X:Cx}
noncomputable def bC4:List V->Hp->VK->Prop:=fun xs H Q=>∃ p b ys,xs=[.ref p]/\fA H p=some (b,ys)/\∀ l,H l=none->Q (.ref l) (upd H l (.lst ys))
theorem jZ:gN X (.type "list") bC4:=by
 intro pins s σ H xs us Q I r h
 obtain⟨p,b,ys,rfl,hq,q⟩:=h
 cases b with
 | true=>exact kQ pins s σ H _ us Q I r ⟨p,ys,rfl,.inl (iO hq),q⟩
 | false=>exact kQ pins s σ H _ us Q I r ⟨p,ys,rfl,.inr (eP hq),q⟩
noncomputable def bS3:List V->Hp->VK->Prop:=fun xs H Q=>∃ p b ys,xs=[.ref p]/\fA H p=some (b,ys)/\if b=true then ∀ l,H l=none->Q (.ref l) (upd H l (.tup ys))else Q (.ref p) H
theorem cB:gN X (.type "tuple") bS3:=by
 intro pins s σ H xs us Q I r h
 obtain⟨p,b,ys,rfl,hq,q⟩:=h
 cases b with
 | true=>exact jA pins s σ H _ us Q I r ⟨p,ys,rfl,.inl ⟨iO hq,by simpa using q⟩⟩
 | false=>exact jA pins s σ H _ us Q I r ⟨p,ys,rfl,.inr ⟨eP hq,by simpa using q⟩⟩
noncomputable def bH3:R2:=fun x y H Q=>match x,y with
 | .int i,.int j=>bQ3 i j/\Q (.int (i*j)) H
 | .str z,.int i=>z.length<=1000/\0<=i/\i<=1000/\∀ y:Str,y.length<=z.length*i.toNat->y=PySem.Txt.mul z i->Q (.str y) H
 | _,_=>False
theorem bH4(z:Str)(i:Int)(h0:0<=i):(PySem.Txt.mul z i).length<=z.length*i.toNat:=by
 unfold PySem.Txt.mul
 by_cases h1:i < 1
 ·rw[if_pos h1];exact Nat.zero_le _
 ·rw[if_neg h1]
  by_cases h2:(i==1||z.length==0)=true
  ·rw[if_pos h2]
   have:1<=i.toNat:=by omega
   calc z.length=z.length*1:=by rw[Nat.mul_one]
    _<=z.length*i.toNat:=Nat.mul_le_mul_left _ this
  ·rw[if_neg h2]
   have key:∀ (k:Nat) (acc:Array Nat),((List.replicate k z.cps).foldl (· ++ ·) acc).size=acc.size+k*z.cps.size:=by
    intro k
    induction k with
    | zero=>intro acc;simp
    | succ k ih=>
      intro acc
      rw[List.replicate_succ,List.foldl_cons,ih,Array.size_append,Nat.succ_mul]
      omega
   show((List.replicate i.toNat z.cps).foldl (· ++ ·) #[]).size<=_
   rw[key]
   show 0+_<=_
   rw[Nat.zero_add,Nat.mul_comm]
   exact Nat.le_refl _
theorem bS4:OpR X (binaryOp .Mult) bH3:=by
 intro pins s σ H x y v u Q I rx ry h
 unfold bH3 at h
 split at h
 ·exact bQ5 pins s σ H _ _ v u Q I rx ry ⟨_,_,rfl,rfl,h.1,h.2⟩
 ·rename_i z i
  obtain⟨h1,h2,h3,q⟩:=h
  obtain⟨t,rfl⟩:=rx
  obtain⟨t',rfl⟩:=ry
  have hle:z.length*i.toNat<=1000*1000:=Nat.mul_le_mul h1 (by omega)
  refine SB.mul ⟨?_,fun ha hb=>?_,fun ha hb=>?_⟩ fun t' k=>⟨.str _,H,I.tok k,⟨t',rfl⟩,q _ (bH4 z i h2) rfl⟩
  ·rw[decide_eq_false (by omega),decide_eq_false (by omega)];rfl
  ·have h4:(1000:Int)<=(2 ^ 63-1) / i:=by
    rw[Int.le_ediv_iff_mul_le (by omega)]
    omega
   omega
  ·unfold PySem.Builtin.Str.tooLong
   exact decide_eq_false (by rw[sizeLine_eq];omega)
 ·exact h.elim
end
section
variable{H:Hp}{Q:VK}{i j:Int}{p:Addr}{b:Bool}{xs:List V}
end
end L2
namespace L2
end L2
namespace L2
open PySem
theorem aX5{x:Str}{j:Int}(h0:0<=j)(h1:j<=x.length):(PySem.Txt.slice x none (some j)).cps.toList=x.cps.toList.take j.toNat:=by
 have e:=PySem.StrLaws.sliceText_to (x:=x) (j:=j) ⟨h0,by simpa[Str.length]using h1⟩
 have e':PySem.Txt.slice x none (some j)=_:=e
 rw[e']
 simp
theorem aH4{x:Str}{i:Int}(h0:0<=i)(h1:i<=x.length):(PySem.Txt.slice x (some i) none).cps.toList=x.cps.toList.drop i.toNat:=by
 have h1':i<=x.cps.toList.length:=by simpa[Str.length]using h1
 have e:=PySem.StrLaws.sliceText_from (x:=x) (i:=i) ⟨h0,h1'⟩
 have e':PySem.Txt.slice x (some i) none=_:=e
 rw[e']
 show(x.cps.toList.drop i.toNat).take _=_
 exact List.take_of_length_le (by rw[List.length_drop];omega)
theorem gQ(x:Str):x.length=x.cps.toList.length:=by simp[Str.length]
end L2
namespace L2
open PySem PySem.Spec PyProof.Rows
inductive Dt where
 | non | int (i:Int) | str (x:Str) | tup (l:List Dt)
noncomputable instance:DecidableEq Dt:=fun _ _=>Classical.propDecidable _
mutual
inductive Rep(H:Hp):Dt->V->Prop
 | non:Rep H .non .non
 | int (i:Int):Rep H (.int i) (.int i)
 | str (x:Str):Rep H (.str x) (.str x)
 | tup {l:List Dt} {p:Addr} {xs:List V}:H p=some (.tup xs)->Reps H l xs->Rep H (.tup l) (.ref p)
inductive Reps(H:Hp):List Dt->List V->Prop
 | nil:Reps H [] []
 | cons {d:Dt} {r:List Dt} {x:V} {xs:List V}:Rep H d x->Reps H r xs->Reps H (d::r) (x::xs)
end
noncomputable def gR(H H':Hp):Prop:=∀ p xs,H p=some (.tup xs)->H' p=some (.tup xs)
theorem gR.refl(H:Hp):gR H H:=fun _ _ h=>h
theorem gR.trans{H H1 H2:Hp}(a:gR H H1)(b:gR H1 H2):gR H H2:=fun p xs h=>b p xs (a p xs h)
theorem gR.upd{H:Hp}{p:Addr}{o:HO}(h:∀ xs,H p≠some (.tup xs)):gR H (L2.upd H p o):=fun q xs e=>by
 have:q≠p:=fun z=>h xs (by rw[← z];exact e)
 rw[aH this];exact e
theorem Same.tupExt{H H':Hp}(h:Same H H'):gR H H':=fun p xs e=>h p _ e
mutual
theorem Rep.mono{H H':Hp}(he:gR H H'):∀ {d:Dt} {x:V},Rep H d x->Rep H' d x
 | _,_,.non=>.non
 | _,_,.int i=>.int i
 | _,_,.str x=>.str x
 | _,_,.tup h r=>.tup (he _ _ h) (Reps.mono he r)
theorem Reps.mono{H H':Hp}(he:gR H H'):∀ {l:List Dt} {xs:List V},Reps H l xs->Reps H' l xs
 | _,_,.nil=>.nil
 | _,_,.cons a r=>.cons (Rep.mono he a) (Reps.mono he r)
end
mutual
theorem Rep.inj{H:Hp}:∀ {d e:Dt} {x:V},Rep H d x->Rep H e x->d=e
 | _,_,_,.non,h=>by cases h;rfl
 | _,_,_,.int i,h=>by cases h;rfl
 | _,_,_,.str x,h=>by cases h;rfl
 | _,_,_,.tup h r,h'=>by
   cases h' with
   | tup h2 r2=>
     rw[h]at h2
     cases h2
     rw[Reps.inj r r2]
theorem Reps.inj{H:Hp}:∀ {l m:List Dt} {xs:List V},Reps H l xs->Reps H m xs->l=m
 | _,_,_,.nil,h=>by cases h;rfl
 | _,_,_,.cons a r,h=>by
   cases h with
   | cons a2 r2=>rw[Rep.inj a a2,Reps.inj r r2]
end
theorem Reps.length{H:Hp}:∀ {l:List Dt} {xs:List V},Reps H l xs->l.length=xs.length
 | _,_,.nil=>rfl
 | _,_,.cons _ r=>by simp[Reps.length r]
theorem Reps.get{H:Hp}:∀ {l:List Dt} {xs:List V} {i:Nat} {d:Dt},Reps H l xs->l[i]? = some d->∃ x,xs[i]? = some x/\Rep H d x
 | _,_,_,_,.nil,h=>by simp at h
 | _,_,0,_,.cons a r,h=>by simp at h;subst h;exact⟨_,rfl,a⟩
 | _,_,i+1,_,.cons a r,h=>by
   obtain⟨x,e,q⟩:=Reps.get (i:=i) r (by simpa using h)
   exact⟨x,by simpa using e,q⟩
theorem Reps.append{H:Hp}:∀ {l m:List Dt} {xs ys:List V},Reps H l xs->Reps H m ys->Reps H (l++m) (xs++ys)
 | _,_,_,_,.nil,h=>h
 | _,_,_,_,.cons a r,h=>.cons a (Reps.append r h)
theorem Reps.take{H:Hp}:∀ {l:List Dt} {xs:List V} (n:Nat),Reps H l xs->Reps H (l.take n) (xs.take n)
 | _,_,0,_=>.nil
 | _,_,_+1,.nil=>.nil
 | _,_,n+1,.cons a r=>.cons a (Reps.take n r)
theorem Reps.drop{H:Hp}:∀ {l:List Dt} {xs:List V} (n:Nat),Reps H l xs->Reps H (l.drop n) (xs.drop n)
 | _,_,0,r=>r
 | _,_,_+1,.nil=>.nil
 | _,_,n+1,.cons _ r=>Reps.drop n r
mutual
def Dt.dep:Dt->Nat
 | .tup l=>Dt.deps l+1
 | _=>0
def Dt.deps:List Dt->Nat
 | []=>0
 | d::r=>max d.dep (Dt.deps r)
end
section
variable{X:Cx}{pins:List (Addr×Obj)}{σ:St}{H:Hp}{s:Shared}
end
end L2
namespace L2
open PySem PySem.Spec PyProof.Rows
section
variable{X:Cx}{pins:List (Addr×Obj)}{σ:St}{H:Hp}{s:Shared}
noncomputable def cI7(neg:Bool):R2:=fun x y H Q=>match x,y with
 | .ref p,.ref q=>∃ b xs ys l m,fA H p=some (b,xs)/\fA H q=some (b,ys)/\Reps H l xs/\Reps H m ys/\Dt.deps l<=60/\Q (.bl (if neg then !decide (l=m)else decide (l=m))) H
 | _,_=>cG6 x y=true/\Q (.bl (if neg then !decide (x=y)else decide (x=y))) H
end
section
variable{X:Cx}
theorem bH5{prog:Program}{w:World}{A:Around}{E:Value->Shared->Prop}{s:Shared}{t b:Addr}{ws:List Value}{Q:Value->Shared->Prop}(ht:IsTup s.heap t ([]:List Value).toArray)(hb:IsTup s.heap b ws.toArray)
  (h1:Q (.ref b) s):wpAny (model prog w) A (binaryOp .Add (.ref t) (.ref b)) Q E s:=by
 obtain⟨⟨cls,dd,data,sl⟩,ho,hc,n,hd⟩:=id ht
 obtain⟨⟨cls2,dd2,data2,sl2⟩,ho2,hc2,n2,hd2⟩:=id hb
 simp only at hc hd hc2 hd2
 subst hc hd hc2 hd2
 exact concat_meets ⟨_,ho,rfl⟩ ⟨_,ho2,rfl⟩ noFill_tuple_add seq_tuple_add PySem.F.slot_tuple_add PySem.F.entry_tuple_add (PySem.F.args_tuple_add_2 _ _)
   (tuple_addW0 t b ([]:List Value).toArray ws.toArray n n2 dd dd2 sl sl2 (by simp)) ⟨ho,ho2,h1⟩
noncomputable def bH6:R2:=fun x y H Q=>match x,y with
 | .int i,.int j=>Q (.int (i+j)) H
 | .str a,.str b=>a.length+b.length<=sizeLine/\Q (.str (a++b)) H
 | .ref p,.ref q=>(∃ xs ys,H p=some (.lst xs)/\H q=some (.lst ys)/\xs.length+ys.length<=sizeLine/\∀ r,H r=none->Q (.ref r) (upd H r (.lst (xs++ys)))) \/
   ∃ xs ys,fA H p=some (false,xs)/\fA H q=some (false,ys)/\xs.length+ys.length<=sizeLine/\(xs=[]->Q (.ref q) H)/\(xs≠[]->ys=[]->Q (.ref p) H)/\(xs≠[]->ys≠[]->∀ r,H r=none->Q (.ref r) (upd H r (.tup (xs++ys))))
 | _,_=>False
theorem bS5:OpR X (binaryOp .Add) bH6:=by
 intro pins s σ H x y v u Q I rx ry h
 unfold bH6 at h
 split at h
 ·exact bQ4 pins s σ H _ _ v u Q I rx ry ⟨_,_,rfl,rfl,h⟩
 ·exact aG5 pins s σ H _ _ v u Q I rx ry ⟨_,_,rfl,rfl,h.1,h.2⟩
 ·rename_i p q
  rcases h with⟨xs,ys,h1,h2,h3,q⟩ | ⟨xs,ys,h1,h2,h3,q1,q2,q3⟩
  ·exact bR9 pins s σ H _ _ v u Q I rx ry ⟨_,_,xs,ys,rfl,rfl,h1,h2,h3,q⟩
  ·by_cases hx:xs=[]
   ·cases rx
    cases ry
    obtain⟨its,r1,p1,_⟩:=I.tuple (eP h1)
    obtain⟨its2,r2,p2,_⟩:=I.tuple (eP h2)
    have e:its=[]:=r1.nil_iff.mpr hx
    subst e
    exact bH5 p1 p2 ⟨.ref q,H,I,rfl,q1 hx⟩
   ·exact bF9 pins s σ H _ _ v u Q I rx ry ⟨p,q,xs,ys,rfl,rfl,eP h1,eP h2,hx,h3,q2 hx,q3 hx⟩
 ·exact h.elim
end
end L2
namespace L2
open PySem PySem.Spec PyProof.Rows
section
variable{X:Cx}
theorem aM6:∀ {zs:List Str} {us:List Value},bL (zs.map V.str) us->∀ u∈us,∃ z t,u=.str z t
 | [],_,.nil=>fun u hu=>nomatch hu
 | z::r,_,.cons h1 h2=>fun u hu=>by
   rcases List.mem_cons.mp hu with e | e
   ·obtain⟨t,q⟩:=h1
    exact⟨z,t,e.trans q⟩
   ·exact aM6 h2 u e
noncomputable def isZ(z:Str):Value->Bool
 | .str y _=>y==z
 | _=>false
end
end L2
namespace L2
open PySem PySem.Spec PyProof.Rows
section
variable{prog:Program}{w:World}{A:Around}{E:Value->Shared->Prop}{s:Shared}
end
end L2
namespace L2
open PySem PySem.Spec PyProof.Rows
noncomputable abbrev eM(acc:Array Value)(c:Nat):Obj:={cls:=.type "list",dict:=none,data:=.seq acc c,slots:=#[]}
structure LoopJ(prog:Program)(w:World)(A:Around)(I S:Addr)(n:Nat)(J:Nat->Array Value->Heap->Prop)(K:Array Value->Heap->Prop):Prop where
 item:∀ i acc (s:Shared) (c:Nat) (Q:Option Value->Shared->Prop) (E:Value->Shared->Prop),i < n->J i acc s.heap->s.heap.get? S=some (eM acc c) ->
  (∀ v h' tk,J (i+1) (acc.push v) h'->h'.get? S=some (eM acc c)->Q (some v) {s with heap:=h',toks:=tk})->wpAny (model prog w) A (pyNext (.ref I)) Q E s
 done:∀ acc (s:Shared) (c:Nat) (Q:Option Value->Shared->Prop) (E:Value->Shared->Prop),J n acc s.heap->s.heap.get? S=some (eM acc c) ->
  (∀ h' tk,K acc h'->h'.get? S=some (eM acc c)->Q none {s with heap:=h',toks:=tk})->wpAny (model prog w) A (pyNext (.ref I)) Q E s
 frame:∀ i acc h h',J i acc h->h'.objs.size=h.objs.size->(∀ b o,b≠S->h.get? b=some o->h'.get? b=some o)->J i acc h'
section
variable{prog:Program}{w:World}{A:Around}{E:Value->Shared->Prop}{I S:Addr}{n:Nat}{J:Nat->Array Value->Heap->Prop}{K:Array Value->Heap->Prop}{R:Result->Shared->Prop}
theorem aX6(L:LoopJ prog w A.in1 I S n J K)(hn:n<=sizeLine)(res:Value):∀ (k i:Nat) (s:Shared) (acc:Array Value) (c:Nat),n-i=k->i<=n->J i acc s.heap->acc.size=i->s.heap.get? S=some (eM acc c) ->
  (∀ h' tk acc' c',K acc' h'->acc'.size=n->h'.get? S=some (eM acc' c')->R (.ok (.ret res)) {s with heap:=h',toks:=tk})->codeAny (model prog w) A (.builtin "list.extend.loop" ⟨[.ref S,.ref I,res],[]⟩) R s:=by
 intro k
 induction k with
 | zero=>
   intro i s acc c hk hi hJ ha hS hR
   obtain rfl:i=n:=by omega
   (refine codeAny_builtin F.entry_extend_loop ?_;rw[Around.under_plainId F.plain_extend_loop _])
   (show wpAny _ A.in1 (pyNext (.ref I) >>= _) _ _ s;refine wpAny_bind (L.done acc s c _ _ hJ hS fun h' tk hK hS'=>?_))
   exact wpAny_pure (hR h' tk acc c hK ha hS')
 | succ k ih=>
   intro i s acc c hk hi hJ ha hS hR
   have hlt:i < n:=by omega
   (refine codeAny_builtin F.entry_extend_loop ?_;rw[Around.under_plainId F.plain_extend_loop _])
   (show wpAny _ A.in1 (pyNext (.ref I) >>= _) _ _ s;refine wpAny_bind (L.item i acc s c _ _ hlt hJ hS fun v h' tk hJ' hS'=>?_))
   (show wpAny _ A.in1 (updateSeq S (·.push v) >>= _) _ _ _;refine wpAny_bind ?_)
   refine wpAny_updateSeq hS' rfl (wpAny_pure ⟨plainId_quiet F.plain_extend_loop _,ih (i+1) _ (acc.push v) (c+1) (by omega) hlt ?_ (by rw[Array.size_push,ha]) ?_ ?_⟩) (by rw[ha];omega) (by show(acc.push v).size<=sizeLine+1;rw[Array.size_push,ha];omega)
   ·exact L.frame _ _ _ _ hJ' (Heap.size_update ..) fun b o hb e=>(Heap.get?_update_other _ _ (Ne.symm hb)).trans e
   ·rw[Heap.get?_update_self _ hS' rfl]
    simp[Obj.mapSeq]
   ·intro h'' tk'' acc' c' hK hsz hS''
    exact hR h'' tk'' acc' c' hK hsz hS''
end
section
variable{prog:Program}{w:World}{A:Around}{E:Value->Shared->Prop}{s:Shared}{I:Addr}{Q:Bool->Shared->Prop}
end
end L2
namespace L2
open PySem PySem.Spec PyProof.Rows
theorem Inv.adoptAll{X:Cx}{pins:List (Addr×Obj)}{σ:St}{s:Shared}:∀ (ps:List (Addr×List V)) {H:Hp},Inv X pins σ H s->(∀ p∈ps,Stray X pins H p.1)->(ps.map (·.1)).Nodup ->
  (∀ p∈ps,p.2.length<=sizeLine/\∃ its:List Value,bL p.2 its/\IsTup s.heap p.1 its.toArray/\cD3 s.heap p.1) ->
  ∃ H',Inv X pins σ H' s/\Same H H'/\(∀ p∈ps,H' p.1=some (.tup p.2))/\∀ b,(∀ p∈ps,p.1≠b)->H' b=H b
 | [],H,I,_,_,_=>⟨H,I,Same.refl H,(fun p hp=>absurd hp (by simp)),fun b _=>rfl⟩
 | p::ps,H,I,hs,hnd,ho=>by
   obtain⟨a,xs⟩:=p
   have st:=hs (a,xs) List.mem_cons_self
   obtain⟨hz,its,vr,ht⟩:=ho (a,xs) List.mem_cons_self
   have I1:Inv X pins σ (upd H a (.tup xs)) s:=I.adopt st.un st.young st.loc st.cell st.pin ⟨hz,its,vr,ht⟩
   rw[List.map_cons,List.nodup_cons]at hnd
   have hne:∀ q∈ps,q.1≠a:=fun q hq z=>hnd.1 (List.mem_map.mpr ⟨q,hq,z⟩)
   obtain⟨H',I',hsame,hps,hoth⟩:=Inv.adoptAll ps I1 (fun q hq=>by
    have sq:=hs q (List.mem_cons_of_mem _ hq)
    exact⟨by rw[aH (hne q hq)];exact sq.un,sq.loc,sq.young,sq.cell,sq.pin⟩) hnd.2 (fun q hq=>ho q (List.mem_cons_of_mem _ hq))
   refine⟨H',I',(bS st.un).trans hsame,fun q hq=>?_,fun b hb=>?_⟩
   ·rcases List.mem_cons.mp hq with rfl | hq
    ·exact hsame a _ aT
    ·exact hps q hq
   ·rw[hoth b fun q hq=>hb q (List.mem_cons_of_mem _ hq),aH fun z=>hb (a,xs) List.mem_cons_self z.symm]
section
variable{prog:Program}{w:World}{A:Around}{E:Value->Shared->Prop}{s:Shared}
end
end L2
namespace L2
open PySem PySem.Spec PyProof.Rows
section
variable{X:Cx}
end
structure ZK(h0:Heap)(xs ys:Array Value)(acc:Array Value)(h:Heap):Prop where
 keep:∀ b o,h0.get? b=some o->h.get? b=some o
 got:∀ j,j < min xs.size ys.size->∃ T x y,acc[j]? = some (.ref T)/\xs[j]? = some x/\ys[j]? = some y/\IsPair h T x y/\h0.objs.size+6<=T
 nd:acc.toList.Nodup
section
variable{prog:Program}{w:World}{A:Around}{E:Value->Shared->Prop}{s:Shared}
end
end L2
namespace L2
open PySem PySem.Spec PyProof.Rows
section
variable{prog:Program}{w:World}{A:Around}{E:Value->Shared->Prop}{s:Shared}
end
section
variable{X:Cx}
end
end L2
namespace L2
open PySem PySem.Spec PyProof.Rows
noncomputable def bS6(H:Hp):V->Option String
 | .non=>some "NoneType"
 | .bl _=>some "bool"
 | .int _=>some "int"
 | .str _=>some "str"
 | .ref p=>match H p with
   | some (.lst _)=>some "list"
   | some (.tup _)=>some "tuple"
   | _=>none
 | _=>none
noncomputable def kA(t c:String):Bool:=t==c||(t=="bool"&&c=="int")
theorem aX7{K:PySem.W.Frag}{t c:String}(ht:t="NoneType"\/t="int"\/t="bool"\/t="str"\/t="list"\/t="tuple")(hc:c="int"\/c="bool"\/c="str"\/c="list"\/c="tuple"):PySem.W.kitOne K (.type t) (.type c)=some (kA t c):=by
 rcases ht with rfl | rfl | rfl | rfl | rfl | rfl<;>rcases hc with rfl | rfl | rfl | rfl | rfl<;>first | exact aX3 | rfl | (unfold PySem.W.kitOne;decide +kernel) | (unfold PySem.W.kitOne;rfl)
end L2
namespace Mr
open PySem L2 PyProof.Rows
theorem _root_.L2.Same.none{H H':Hp}(h:Same H H'){q:Addr}(hq:H' q=Option.none):H q=Option.none:=by
 cases e:H q with
 | none=>rfl
 | some o=>rw[h q o e]at hq;cases hq
theorem _root_.L2.Same.put{H H2:Hp}{q:Addr}{o:HO}(h:Same H H2)(hq:H q=Option.none):Same H (L2.upd H2 q o):=fun b u e=>by
 rw[aH (aV e hq)];exact h b u e
theorem _root_.L2.Same.upd{H H2:Hp}{q:Addr}{o:HO}(h:Same H H2)(hq:H2 q=Option.none):Same H (L2.upd H2 q o):=h.trans (bS hq)
inductive Tr where
 | leaf (z:Str) | node (l r:Tr)
noncomputable def Tr.dt:Tr->Dt
 | .leaf z=>.str z
 | .node l r=>.tup [l.dt,r.dt]
noncomputable def Tr.leaves:Tr->List Str
 | .leaf z=>[z]
 | .node l r=>l.leaves++r.leaves
noncomputable def Tr.pairs:Tr->List Tr
 | .leaf _=>[]
 | .node l r=>l.pairs++r.pairs++[.node l r]
noncomputable def Tr.dep:Tr->Nat
 | .leaf _=>0
 | .node l r=>max l.dep r.dep+1
theorem Tr.dt_dep:∀ t:Tr,t.dt.dep=t.dep
 | .leaf z=>by unfold Tr.dt Tr.dep;rfl
 | .node l r=>by
   unfold Tr.dt Tr.dep
   show Dt.deps [l.dt,r.dt]+1=_
   unfold Dt.deps
   rw[Tr.dt_dep l]
   unfold Dt.deps
   rw[Tr.dt_dep r]
   unfold Dt.deps
   omega
theorem Tr.pairs_dep:∀ t:Tr,∀ u∈t.pairs,u.dep<=t.dep
 | .leaf z=>fun u hu=>by unfold Tr.pairs at hu;cases hu
 | .node l r=>fun u hu=>by
   unfold Tr.pairs at hu
   rcases List.mem_append.mp hu with h | h
   ·rcases List.mem_append.mp h with h | h
    ·have:=Tr.pairs_dep l u h;simp only[Tr.dep];omega
    ·have:=Tr.pairs_dep r u h;simp only[Tr.dep];omega
   ·rw[List.mem_singleton.mp h];exact Nat.le_refl _
theorem Tr.rep_leaf{H:Hp}{z:Str}{v:V}(h:Rep H (Tr.leaf z).dt v):v=.str z:=by
 unfold Tr.dt at h;cases h;rfl
theorem Tr.rep_node{H:Hp}{l r:Tr}{v:V}(h:Rep H (Tr.node l r).dt v):∃ (p:Addr) (x y:V),v=.ref p/\H p=some (.tup [x,y])/\Rep H l.dt x/\Rep H r.dt y:=by
 unfold Tr.dt at h
 cases h with
 | tup h1 h2=>
   cases h2 with
   | cons a b=>
     cases b with
     | cons c d=>cases d;exact⟨_,_,_,rfl,h1,a,c⟩
theorem Tr.mk_node{H:Hp}{l r:Tr}{p:Addr}{x y:V}(h:H p=some (.tup [x,y]))(hl:Rep H l.dt x)(hr:Rep H r.dt y):Rep H (Tr.node l r).dt (.ref p):=by
 unfold Tr.dt
 exact .tup h (.cons hl (.cons hr .nil))
noncomputable def Tr.isLeaf:Tr->Bool
 | .leaf _=>true
 | .node _ _=>false
theorem Tr.kind{H:Hp}{t:Tr}{v:V}(h:Rep H t.dt v):∃ k,bS6 H v=some k/\kA k "str"=t.isLeaf:=by
 cases t with
 | leaf z=>rw[Tr.rep_leaf h];exact⟨"str",rfl,rfl⟩
 | node l r=>
   obtain⟨p,x,y,rfl,hp,_⟩:=Tr.rep_node h
   refine⟨"tuple",?_,rfl⟩
   unfold bS6;dsimp only;rw[hp]
theorem Tr.leaves_pos:∀ t:Tr,1<=t.leaves.length
 | .leaf z=>Nat.le_refl _
 | .node l r=>by have:=Tr.leaves_pos l;simp only[Tr.leaves,List.length_append];omega
theorem Tr.dep_lt:∀ t:Tr,t.dep+1<=t.leaves.length
 | .leaf z=>Nat.le_refl _
 | .node l r=>by
   have:=Tr.dep_lt l
   have:=Tr.dep_lt r
   simp only[Tr.dep,Tr.leaves,List.length_append];omega
theorem Tr.pairs_len:∀ t:Tr,t.pairs.length+1=t.leaves.length
 | .leaf z=>rfl
 | .node l r=>by
   have:=Tr.pairs_len l
   have:=Tr.pairs_len r
   simp only[Tr.pairs,Tr.leaves,List.length_append,List.length_singleton];omega
noncomputable def Tr.work:Tr->Nat
 | .leaf _=>1
 | .node l r=>l.work+r.work+1
noncomputable def Tr.back:Tr->List Tr
 | .leaf _=>[]
 | .node l r=>.node l r::(r.back++l.back)
theorem Tr.back_rev:∀ t:Tr,t.back.reverse=t.pairs
 | .leaf z=>rfl
 | .node l r=>by
   simp only[Tr.back,Tr.pairs,List.reverse_cons,List.reverse_append,Tr.back_rev l,Tr.back_rev r]
noncomputable def Tr.sub:Tr->List Int->Option Tr
 | t,[]=>some t
 | .leaf _,_::_=>none
 | .node l r,i::p=>if i=0 then l.sub p else if i=1 then r.sub p else none
end Mr
namespace L2
open PySem PyProof.Rows
end L2
namespace L2
open PySem
theorem qN{zs:List Str}:∀ {ys:List V},(∀ y∈ys,y∈zs.map V.str)->∃ cs:List Str,ys=cs.map V.str/\∀ c∈cs,c∈zs
 | [],_=>⟨[],rfl,fun _ h=>nomatch h⟩
 | y::r,h=>by
   obtain⟨z,hz,e⟩:=List.mem_map.mp (h y List.mem_cons_self)
   obtain⟨cs,e1,e2⟩:=qN (ys:=r) fun u hu=>h u (List.mem_cons_of_mem _ hu)
   refine⟨z::cs,by rw[List.map_cons,← e1,e],fun c hc=>?_⟩
   rcases List.mem_cons.mp hc with rfl | hc
   ·exact hz
   ·exact e2 c hc
end L2
namespace L2
end L2
namespace Mr
open PySem L2
end Mr
namespace L2
open PySem
theorem bH7{X:Cx}(K:PySem.W.Frag)(hK:X.K=K){tg l:Expr}{tl:TE}(hl:PE X l tl):PI X tg l (cE2 K tl):=by rw[← hK];exact bS2 hl
theorem lK{X:Cx}{pos:Pos}(K:PySem.W.Frag)(hK:X.K=K){es:List Expr}{k:Nat}{t:TGs}{n:Nat}(hc:X.calm=true)(h:PGs X es t)
  (hn:(assignEach es X.env).length=n:=by rfl) (hst:(assignEach es X.env).findIdx? (·.1)=none:=by rfl):PG X (.Tuple es k pos) (aX4 K n t):=by rw[← hK];exact bH2 hc h hn hst
section
variable{X:Cx}{o e:Expr}{es:List Expr}{to:TE}{t:TA}{name:Str}{apos cpos:Pos}{T id:String}{r:V->List V->Hp->VK->Prop}
theorem rY(K:PySem.W.Frag)(hK:X.K=K)(pa:PlainAttrs T)(slot:Slot T name id)(hty:typeOf (.builtin id)=pure (.type "method_descriptor"))(hm:MtR X id r)(ho:PE X o to)(ha:PA X (e::es) t)
  (hbase:attributeBase o name X.env (eval o X.env)=eval o X.env:=by rfl)
  (hfew:((backTo cpos (starEach (e::es) X.env)).all (fun x=>!x.1)&&(backToKw cpos (keywordEach [] X.env)).all (fun x=>x.1.isSome)&&decide ((e::es).length+([]:List Keyword).length+(if([]:List Keyword).isEmpty then 0 else 1) < 30))=true:=by rfl)
  (hline:(apos.endLine==cpos.line)=true:=by rfl) (hs:starEach (e::es) X.env=(false,eval e X.env)::starEach es X.env:=by rfl) (hplain:(backTo cpos (starEach es X.env)).any (·.1)=false:=by rfl) :
  PE X (.Call (.Attribute o name apos) (e::es) [] cpos) (tBM K T r to t):=by rw[← hK];exact cB1 pa slot hty hm ho ha hbase hfew hline hs hplain
end
end L2
namespace L2
open PySem
end L2
namespace Mr
open PySem L2
end Mr
namespace L2
open PySem
section
variable{H:Hp}{Q:VK}{p q:Addr}{xs:List V}
end
end L2
namespace L2
end L2
namespace Mr
open PySem L2
theorem Tr.work_len:∀ t:Tr,t.work+1=2*t.leaves.length
 | .leaf z=>rfl
 | .node l r=>by
   have:=Tr.work_len l
   have:=Tr.work_len r
   simp only[Tr.work,Tr.leaves,List.length_append];omega
theorem Tr.work_pos:∀ t:Tr,1<=t.work
 | .leaf z=>Nat.le_refl _
 | .node l r=>by unfold Tr.work;omega
open PySem L2 PyProof.Rows
theorem Tr.sub_small:∀ {t:Tr} {ql:List Int} {s:Tr},t.sub ql=some s->ql.length<=t.dep/\s.leaves.length<=t.leaves.length
 | t,[],s,h=>by
   have e:t=s:=by cases t<;>(unfold Tr.sub at h;exact Option.some.inj h)
   rw[e];exact⟨Nat.zero_le _,Nat.le_refl _⟩
 | .leaf z,i::p,s,h=>by unfold Tr.sub at h;cases h
 | .node l r,i::p,s,h=>by
   unfold Tr.sub at h
   by_cases h0:i=0
   ·rw[if_pos h0]at h
    have:=Tr.sub_small h
    simp only[Tr.dep,Tr.leaves,List.length_append,List.length_cons];omega
   ·rw[if_neg h0]at h
    by_cases h1:i=1
    ·rw[if_pos h1]at h
     have:=Tr.sub_small h
     simp only[Tr.dep,Tr.leaves,List.length_append,List.length_cons];omega
    ·rw[if_neg h1]at h;cases h
section
variable{p q f l sp:Addr}{t:Tr}{v:V}{es ls:List V}{zs:List Str}{H0 H H':Hp}{fs:List V}
end
end Mr
namespace L2
open PySem
section
variable{M:Model}{A:Around}{E:Value->Shared->Prop}{s:Shared}
end
end L2
namespace L2
open PySem PySem.Spec PyProof.Rows
noncomputable def exo(e:Addr)(C:Value)(d:Option Addr)(tb:Value):HO:=.ext fun h=>∃ o vs,h.get? e=some o/\o.cls=C/\o.dict=d/\o.data=.fields vs/\5 < vs.size/\vs[1]? = some tb
section
variable{P:Program}{w:World}{H:Hp}{h:Heap}{e:Addr}{C:Value}{d:Option Addr}{tb:Value}
end
noncomputable def CXo(P:Program)(w:World):CXT:=fun outer H s E x s'=>∃ (e C:Addr) (d:Option Addr) (H':Hp) (T:Addr),
 x=.ref e/\s'.os=s.os/\AllBare s'.gens/\Un (frs outer) [] H H' s.heap s'.heap/\HOk P w H' s'.heap/\H' e=some (exo e (.ref C) d (.ref T))/\s.heap.objs.size<=T/\H' T=none/\T≠e /\
 (∃ oT ts,s'.heap.get? T=some oT/\oT.data=.fields ts/\ts[3]? = some .none)/\∀ T',E (.ref e) d (upd H' e (exo e (.ref C) d (.ref T')))
section
variable{X:Cx}{pins:List (Addr×Obj)}{σ:St}{H:Hp}{s:Shared}
end
section
variable{P:Program}{w:World}{K:PySem.W.Frag}{mg:Str->Option Value}{base:Heap}{N:List Str}{qual:Str}{scope:Scope}{f:Addr}{cd:Value}{A:Around}{outer:List Env}{s:Shared}{H:Hp}{E:XK}
theorem Fun.okX{x:Str}{st:Stmt}{fd:FuncData}{ps:List Str}{k:Nat}{sp:Sp}(F:Fun K x qual st f fd)(S:FnScope N ps (aO st))(len:∀ vs H Q E,sp vs H Q E->vs.length=ps.length)
  (hbody:∀ (cdv:Value) (A:Around) (outer:List Env) (s:Shared) (H:Hp) (vs:List V) (Q:VK) (E:XK),Room k (A.deeper (envOfC qual (aO st) s.heap.objs.size f cdv))->sp vs H Q E ->
   ∃ t,PSs (bB9 (CXo P w) P w K mg base N qual (aO st) f cdv A outer s H E) (jX st) t/\t {nx:=fun _ H'=>Q .non H',rt:=Q} (fV N vs) H):FnOk P w K mg base (CXo P w) (k+1) f fd ps sp:=by
 obtain⟨oc,od,kV,doc,pm,an,cdv,ct,osl,rfl,lk,hcd⟩:=F.ex
 exact bR0 lk hcd S len fun A outer s H vs Q E hr hsp=>hbody cdv A outer s H vs Q E hr hsp
theorem FnOk.toX{k:Nat}{fd:FuncData}{ps:List Str}{sp:Sp}(F:FnOk P w K mg base CX0 k f fd ps sp):FnOk P w K mg base (CXo P w) k f fd ps sp:=
 ⟨F.len,fun A outer s H args us vs Q E hr e0 hb hv h=>codeAny_mono (F.run A outer s H args us vs Q E hr e0 hb hv h) fun r s' q=>by
  cases r with
  | error e=>exact(show False from q).elim
  | ok fl=>cases fl<;>exact q⟩
end
end L2
namespace PySem
section
variable{prog:Program}{w:World}{E:Value->Shared->Prop}{A:Around}{os:OsState}{h:Heap}{t:Nat}{g:Array GenState}{d:Drawn}{eE:List Value}{fI:Addr}{oI:Obj}{mN:Str->Option Value}
 {nm q:Str} {B newId initId:String} {C N:Addr} {bs bm bmB sub:List Value} {hdct ab:Bool} {sn:List Str} {col:Option Bool} {dd:Option Addr} {k0 k1 k2 k3 k5:Option Value}
end
end PySem
namespace L2
open PySem PySem.Spec PyProof.Rows
section
variable{P:Program}{w:World}{H:Hp}{h:Heap}{a:Addr}{o:HO}
theorem cT.there(x:cT P w H h a o):∃ ob,h.get? a=some ob:=by
 cases o with
 | lst xs=>obtain⟨_,_,_,_,e⟩:=x;exact⟨_,e⟩
 | tup xs=>obtain⟨_,_,_,⟨ob,e,_⟩,_⟩:=x;exact⟨ob,e⟩
 | dK kvs=>obtain⟨_,_,_,_,o,_,_,e,_⟩:=x;exact⟨_,e⟩
 | dT kvs=>obtain⟨_,_,_,_,o,_,_,e,_⟩:=x;exact⟨_,e⟩
 | set S n=>obtain⟨o,_,_,_,e,_⟩:=x;exact⟨_,e⟩
 | ins C dx fs=>obtain⟨_,_,_,e,_⟩:=x;exact⟨_,e⟩
 | own y=>exact x
 | xd fs=>obtain⟨_,⟨_,_,_,e,_⟩,_⟩:=x;exact⟨_,e⟩
 | rng lo hi=>obtain⟨_,_,_,e⟩:=x;exact⟨_,e⟩
 | frz ob u=>obtain⟨e,_⟩:=x;exact⟨_,e⟩
 | tbl ps=>exact⟨_,(show h.get? a=some _ from x)⟩
 | met f y=>exact⟨_,(show h.get? a=some _ from x)⟩
 | ext φ=>obtain⟨_,e,_⟩:=x;exact e
theorem HOk.none_of(x:HOk P w H h)(e:h.get? a=none):H a=none:=by
 cases q:H a with
 | none=>rfl
 | some u=>
   obtain⟨ob,r⟩:=(x a u q).there
   rw[e]at r;cases r
end
section
variable{X:Cx}{pins:List (Addr×Obj)}{σ:St}{H:Hp}{s:Shared}
theorem Inv.laidN{a:Addr}{o:HO}{h':Heap}{t':Nat}(I:Inv X pins σ H s)(k:∀ b u,s.heap.get? b=some u->h'.get? b=some u)(hp:s.heap.get? a=none)(new:cT X.prog X.w (upd H a o) h' a o):Inv X pins σ (upd H a o) {s with heap:=h',toks:=t'}:=by
 have hn:H a=none:=I.hok.none_of hp
 refine I.un ⟨fun b u q _ _ _=>k b u q,fun b u q _ _ _=>⟨u.slots,k b u q⟩,fun b u q n _=>by rw[aH (fun z=>by rw[z,hp]at q;cases q)];exact n,fun b u q _=>⟨u,k b u q⟩,
  fun b xs q=>by rw[aH (aV q hn)];exact q,fun b u xs q=>by rw[aH (aV q hn)];exact q,fun b ps q=>⟨#[],by rw[aH (aV q hn),q];simp⟩⟩ fun b u e=>?_
 by_cases hb:b=a
 ·subst hb;rw[aT]at e;cases e;exact new
 ·rw[aH hb]at e
  exact(I.hok b u e).stay (fun c v _ q=>k c v q) (fun c q=>by rw[aH (aV q hn)];exact q) fun c xs q=>by rw[aH (aV q hn)];exact q
end
section
variable{X:Cx}{CX:CXT}{k:Nat}{f C:Addr}{fd:FuncData}{ps:List Str}{sp:Sp}{E:XK}{x:Str}{p pos:Pos}{e:Expr}{es:List Expr}{t:TA}{B newId initId:String}{bmB:List Value}
end
end L2
namespace L2
open PySem
section
variable{M:Model}{A:Around}{E:Value->Shared->Prop}{env:Env}
variable{nm q:Str}{C N:Addr}{bs bm:List Value}{hdct:Bool}{sn:List Str}{sub:List Value}{ab:Bool}{col:Option Bool}{dd:Option Addr}{k0 k1 k2 k3 k5:Option Value}{newId:String}
end
end L2
namespace L2
open PySem PyProof.Rows
section
variable{prog:Program}{w:World}{A:Around}{E:Value->Shared->Prop}{h:Heap}{g:Array GenState}{d:Drawn}{t:Nat}{os:OsState}
variable{nm q:Str}{C N:Addr}{bs bm bmB:List Value}{hdct:Bool}{sn:List Str}{sub:List Value}{ab:Bool}{col:Option Bool}{dd:Option Addr}{k0 k1 k2 k3 k5:Option Value}{B newId initId:String}
end
end L2
namespace L2
open PySem PySem.W PySem.Spec PyProof.Rows PySem.Builtin PySem.Builtin.ObjectAttr
section
variable{prog:Program}{w:World}{A:Around}{E:Value->Shared->Prop}{s:Shared}{K:Frag}{x C:Addr}{ox:Obj}{name:Str}{v:Value}{cd:ClassData}{bmB:List Value}{B:String}{Q:Unit->Shared->Prop}{R:Result->Shared->Prop}
end
end L2
namespace L2
open PySem PySem.W PySem.Spec PyProof.Rows
section
variable{prog:Program}{w:World}{A:Around}{E:Value->Shared->Prop}{s:Shared}{K:Frag}{x C:Addr}{ox:Obj}{od:Option Obj}{name:Str}{expr:Bool}{v:Value}{Q:Value->Shared->Prop}{B:String}
end
end L2
namespace L2
open PySem PySem.W PySem.Spec PyProof.Rows
section
variable{M:Model}{A:Around}{E:Value->Shared->Prop}{s:Shared}
variable{K:Frag}{e C D:Addr}{oe:Obj}{Q:Bool->Shared->Prop}
end
end L2
namespace L2
open PySem PySem.W PySem.Spec PyProof.Rows
section
variable{prog:Program}{w:World}{A:Around}{E:Value->Shared->Prop}{s:Shared}{K:Frag}{x C:Addr}{ox:Obj}{od:Option Obj}{B:String}
end
end L2
namespace L2
open PySem PySem.Spec PyProof.Rows
section
variable{X:Cx}{o e value:Expr}{to te tv:TE}{f:Str}{pos pos' apos:Pos}
end
end L2
namespace L2
open PySem PySem.Spec PyProof.Rows
section
variable{P:Program}{w:World}{K:PySem.W.Frag}{mg:Str->Option Value}{base:Heap}{N:List Str}{qual:Str}{scope:Scope}{f:Addr}{cd:Value}{A:Around}{outer:List Env}{s:Shared}{H:Hp}{E:XK}{x:Expr}{te:TE}{pos:Pos}
end
section
variable{X:Cx}{C:Addr}{x:Str}{p pos:Pos}{e:Expr}{es:List Expr}{t:TA}
end
section
variable{X:Cx}{R:Str}{CR:Addr}{rp apos pos:Pos}{a:Expr}{as:List Expr}{t:TA}
end
end L2
namespace L2
open PySem PySem.Spec PyProof.Rows
section
variable{X:Cx}{e:Expr}{te:TE}{z1:Str}{j:Nat}{p p' pos:Pos}
end
end L2
namespace L2
open PySem PySem.Spec PyProof.Rows
noncomputable abbrev Cx.tr(X:Cx)(pins:List (Addr×Obj))(E:Value->Shared->Prop):Cx:={X with xe:=E,pn:=X.pn++pins}
noncomputable abbrev Cx.sut(X:Cx)(e:Value)(E:Value->Shared->Prop):Cx:={X with A:=X.A.mark (some e),calm:=false,xe:=E}
section
variable{X:Cx}{pins pins':List (Addr×Obj)}{σ:St}{H:Hp}{s:Shared}{E:Value->Shared->Prop}{e:Value}
theorem Cx.Ok.tr(ok:X.Ok):(X.tr pins E).Ok:=⟨ok.mod,ok.kind,ok.glob,ok.blt,ok.above,ok.inj,ok.has,ok.cab,ok.hd,ok.frames,ok.stk,ok.exf,ok.bs,ok.bsz,ok.noex,ok.exfs,ok.funs,ok.frf⟩
theorem Cx.Ok.untr(ok:(X.tr pins E).Ok):X.Ok:=⟨ok.mod,ok.kind,ok.glob,ok.blt,ok.above,ok.inj,ok.has,ok.cab,ok.hd,ok.frames,ok.stk,ok.exf,ok.bs,ok.bsz,ok.noex,ok.exfs,ok.funs,ok.frf⟩
theorem Cx.Ok.sut(ok:X.Ok):(X.sut e E).Ok:=⟨ok.mod,ok.kind,ok.glob,ok.blt,ok.above,ok.inj,ok.has,ok.cab,(fun z=>nomatch z),ok.frames,ok.stk,ok.exf,ok.bs,ok.bsz,ok.noex,ok.exfs,ok.funs,ok.frf⟩
theorem Inv.tr(I:Inv X pins σ H s):Inv (X.tr pins E) [] σ H s:=⟨I.ok.tr,I.os,I.bare,I.base,I.loc,I.cell,I.free,I.freeC,fun p hp=>I.pin p (by rwa[List.append_nil]at hp),I.hok,I.len⟩
theorem Inv.untr(I:Inv (X.tr pins E) pins' σ H s):Inv X pins σ H s:=⟨I.ok.untr,I.os,I.bare,I.base,I.loc,I.cell,I.free,I.freeC,fun p hp=>I.pin p (List.mem_append_left _ hp),I.hok,I.len⟩
theorem Inv.sut(I:Inv X pins σ H s):Inv (X.sut e E) pins σ H s:=⟨I.ok.sut,I.os,I.bare,I.base,I.loc,I.cell,I.free,I.freeC,I.pin,I.hok,I.len⟩
theorem Inv.unsut(ok:X.Ok)(I:Inv (X.sut e E) pins σ H s):Inv X pins σ H s:=⟨ok,I.os,I.bare,I.base,I.loc,I.cell,I.free,I.freeC,I.pin,I.hok,I.len⟩
theorem SP.untr{D:Ends}{f:Flow}{s':Shared}(h:SP (X.tr pins E) [] D f s'):SP X pins D f s':=by
 cases f with
 | next=>obtain⟨σ',H',I,q⟩:=h;exact⟨σ',H',I.untr,q⟩
 | brk=>obtain⟨σ',H',I,q⟩:=h;exact⟨σ',H',I.untr,q⟩
 | cont=>obtain⟨σ',H',I,q⟩:=h;exact⟨σ',H',I.untr,q⟩
 | ret u=>obtain⟨v,σ',H',I,r,q⟩:=h;exact⟨v,σ',H',I.untr,r,q⟩
end
section
variable{X:Cx}{CX:CXT}{k:Nat}{f:Addr}{fd:FuncData}{ps:List Str}{sp:Sp}{E:St->XK}{x:Str}{p pos:Pos}{e:Expr}{es:List Expr}{t:TA}{pins0:List (Addr×Obj)}
end
section
variable{X:Cx}{pins:List (Addr×Obj)}{σ:St}{H:Hp}{s:Shared}{T:Addr}{oT:Obj}
theorem Inv.unpin{p:Addr×Obj}(I:Inv X (p::pins) σ H s):Inv X pins σ H s:=I.pins_of fun q hq=>I.pin q (List.mem_append_right _ (List.mem_cons_of_mem _ hq))
end
end L2
namespace L2
open PySem PySem.Spec PyProof.Rows
noncomputable abbrev TH:=Addr->Addr->Option Addr->Addr->TS
noncomputable def Ends.gone(D:Ends)(i:Nat):Ends:={nx:=fun σ H=>D.nx (σ.set i none) H,rt:=D.rt,bk:=fun σ H=>D.bk (σ.set i none) H,ct:=fun σ H=>D.ct (σ.set i none) H}
section
variable{X:Cx}{t:Expr}{tt:TE}{n:Str}{i:Nat}{b0:Stmt}{body:List Stmt}{ts:TS}{pos:Pos}{eE:List ExceptHandler}{th:TH}
end
end L2
namespace L2
open PySem PySem.Spec PyProof.Rows
section
variable{κ:Type}[DecidableEq κ]
noncomputable def bL8(kvs:List (κ×V))(k:κ):Option V:=(kvs.find? fun kv=>decide (kv.1=k)).map (·.2)
noncomputable def bY7(kvs:List (κ×V))(k:κ)(v:V):List (κ×V):=
 if(kvs.any fun kv=>decide (kv.1=k))=true then kvs.map (fun kv=>if kv.1=k then(kv.1,v)else kv)else kvs++[(k,v)]
noncomputable def bS7(kvs:List (κ×V))(k:κ):List (κ×V):=kvs.filter fun kv=>decide (kv.1≠k)
theorem aX8{p:κ×V}{r:List (κ×V)}{k:κ}(e:p.1=k):bL8 (p::r) k=some p.2:=by simp[bL8,List.find?_cons,e]
theorem aX9{p:κ×V}{r:List (κ×V)}{k:κ}(e:¬ p.1=k):bL8 (p::r) k=bL8 r k:=by simp[bL8,List.find?_cons,e]
theorem aJ4.isSome_eq{o:Option V}{u:Option Value}(r:aJ4 o u):o.isSome=u.isSome:=by
 cases o with
 | none=>cases u with
   | none=>rfl
   | some _=>exact(show False from r).elim
 | some _=>cases u with
   | none=>exact(show False from r).elim
   | some _=>rfl
theorem aJ4.getD{o:Option V}{u:Option Value}{d:V}{d':Value}(r:aJ4 o u)(rd:dN d d'):dN (o.getD d) (u.getD d'):=by
 cases o with
 | none=>cases u with
   | none=>exact rd
   | some _=>exact(show False from r).elim
 | some _=>cases u with
   | none=>exact(show False from r).elim
   | some _=>exact r
theorem KV.val{kvs:List (κ×V)}{vs:List (κ×Value)}(r:KV kvs vs)(k:κ):aJ4 (bL8 kvs k) (valueAt vs k):=by
 unfold KV at r
 induction r with
 | nil=>exact True.intro
 | @cons p q ps qs h t ih=>
   obtain⟨h1,h2⟩:=h
   by_cases e:p.1=k
   ·have e':q.1=k:=h1.symm.trans e
    have b:valueAt (q::qs) k=some q.2:=by simp[valueAt,List.find?_cons,e']
    rw[aX8 e,b];exact h2
   ·have e':¬ q.1=k:=fun z=>e (h1.trans z)
    have b:valueAt (q::qs) k=valueAt qs k:=by simp[valueAt,List.find?_cons,e']
    rw[aX9 e,b];exact ih
theorem KV.any{kvs:List (κ×V)}{vs:List (κ×Value)}(r:KV kvs vs)(k:κ):(kvs.any fun kv=>decide (kv.1=k))=vs.any fun kv=>decide (kv.1=k):=by
 unfold KV at r
 induction r with
 | nil=>rfl
 | cons h t ih=>rw[List.any_cons,List.any_cons,ih,h.1]
theorem KV.repl{kvs:List (κ×V)}{vs:List (κ×Value)}(r:KV kvs vs)(k:κ){y:V}{u:Value}(ry:dN y u) :
  KV (kvs.map fun kv=>if kv.1=k then(kv.1,y)else kv) (vs.map fun kv=>if kv.1=k then(kv.1,u)else kv):=by
 unfold KV at r ⊢
 induction r with
 | nil=>exact .nil
 | @cons p q ps qs h t ih=>
   rw[List.map_cons,List.map_cons]
   refine .cons ?_ ih
   obtain⟨h1,h2⟩:=h
   by_cases e:p.1=k
   ·rw[if_pos e,if_pos (h1.symm.trans e)];exact⟨h1,ry⟩
   ·rw[if_neg e,if_neg (fun z=>e (h1.trans z))];exact⟨h1,h2⟩
theorem KV.put{kvs:List (κ×V)}{vs:List (κ×Value)}(r:KV kvs vs)(k:κ){y:V}{u:Value}(ry:dN y u):KV (bY7 kvs k y) (stored vs k u):=by
 unfold bY7 stored
 rw[r.any k]
 by_cases e:(vs.any fun kv=>decide (kv.1=k))=true
 ·rw[if_pos e,if_pos e];exact r.repl k ry
 ·rw[if_neg e,if_neg e];exact Paired.snoc r ⟨rfl,ry⟩
theorem KV.drop{kvs:List (κ×V)}{vs:List (κ×Value)}(r:KV kvs vs)(k:κ):KV (bS7 kvs k) (without vs k):=by
 unfold KV at r ⊢
 unfold bS7 without
 induction r with
 | nil=>exact .nil
 | @cons p q ps qs h t ih=>
   obtain⟨h1,h2⟩:=h
   rw[List.filter_cons,List.filter_cons]
   by_cases e:p.1=k
   ·have a:¬ decide (p.1≠k)=true:=by simp[e]
    have b:¬ decide (q.1≠k)=true:=by simp[h1.symm.trans e]
    rw[if_neg a,if_neg b];exact ih
   ·have e':¬ q.1=k:=fun z=>e (h1.trans z)
    have a:decide (p.1≠k)=true:=by simp[e]
    have b:decide (q.1≠k)=true:=by simp[e']
    rw[if_pos a,if_pos b];exact .cons ⟨h1,h2⟩ ih
theorem KV.keys{kvs:List (κ×V)}{vs:List (κ×Value)}(r:KV kvs vs):kvs.map (·.1)=vs.map (·.1):=by
 unfold KV at r
 induction r with
 | nil=>rfl
 | cons h t ih=>rw[List.map_cons,List.map_cons,ih,h.1]
theorem KV.length{kvs:List (κ×V)}{vs:List (κ×Value)}(r:KV kvs vs):kvs.length=vs.length:=Paired.length r
end
section
variable{P:Program}{w:World}{H:Hp}{h:Heap}{a:Addr}
end
section
variable{X:Cx}{pins:List (Addr×Obj)}{σ:St}{H:Hp}{s:Shared}{a:Addr}{y v:V}{u r:Value}{o:Option V}{A:Around}{E:Value->Shared->Prop}
theorem Inv.big(I:Inv X pins σ H s):sysModules < s.heap.objs.size:=by
 have h:mainGlobals < s.heap.objs.size:=(I.mod.glob.keeps I.bk).lt
 exact Nat.lt_trans (by decide) h
end
section
variable{X:Cx}{pins:List (Addr×Obj)}{σ:St}{H:Hp}{s:Shared}{a:Addr}{kvs:List (Key×V)}{k:Key}{u:Value}{A:Around}{E:Value->Shared->Prop}
end
section
variable{X:Cx}{o i e value:Expr}{pos pos' tpos:Pos}{td ty tv:TE}
end
section
variable{X:Cx}{pos:Pos}
end
noncomputable def bS8(kvs more:List (Key×V)):List (Key×V):=more.foldl (fun acc kv=>bY7 acc kv.1 kv.2) kvs
theorem KV.merge:∀ {more:List (Key×V)} {rs:List (Key×Value)} {kvs:List (Key×V)} {vs:List (Key×Value)},KV more rs->KV kvs vs->KV (bS8 kvs more) (merged vs rs):=by
 intro more rs kvs vs r
 unfold KV at r
 induction r generalizing kvs vs with
 | nil=>intro q;exact q
 | @cons p q ps qs h t ih=>
   intro r0
   have e:KV (bY7 kvs p.1 p.2) (stored vs q.1 q.2):=by
    have:=r0.put p.1 h.2
    rw[← h.1];exact this
   exact ih e
section
variable{X:Cx}{pins:List (Addr×Obj)}{σ:St}{H:Hp}{s:Shared}{a:Addr}{y d:V}{u r:Value}{o:Option V}{A:Around}{E:Value->Shared->Prop}
end
section
variable{X:Cx}{o e f:Expr}{apos cpos:Pos}{td ty tx:TE}
end
section
variable{X:Cx}{pins:List (Addr×Obj)}{σ:St}{H:Hp}{s:Shared}{a:Addr}{kvs:List (Key×V)}{A:Around}{E:Value->Shared->Prop}
end
section
variable{X:Cx}{pins:List (Addr×Obj)}{σ:St}{H:Hp}{s:Shared}{a:Addr}{y:V}{u:Value}{A:Around}{E:Value->Shared->Prop}
end
end L2
namespace L2
open PySem PySem.Spec PyProof.Rows
section
variable{X:Cx}
end
section
variable{K:PySem.W.Frag}{t:TA}{te to tv:TE}{f:Str}{σ:St}{H:Hp}{Q:VK}{D:Ends}{sp:Sp}{C:Addr}{E:XK}{Ex:St->XK}{tb:(St->XK)->TS}{th:TH}{i:Nat}{ts:TS}
end
end L2
namespace Mr
open PySem L2 PyProof.Rows
open PySem L2
open PySem L2
open PySem L2
section
variable{K:PySem.W.Frag}{H:Hp}{C t D0 D1 D2 D3:Addr}{b0 b1 b2 b3:Bool}
end
end Mr
namespace L2
open PySem PySem.Spec PyProof.Rows
section
variable{X:Cx}
end
section
variable{t tk tv td ty tx:TE}{r:List (TE×TE)}{σ:St}{H:Hp}{Q:VK}{R:List (V×V)->Hp->Prop}
end
end L2
namespace L2
open PySem PySem.Spec PyProof.Rows
end L2
namespace Mr
open PySem L2 PyProof.Rows
theorem pP{m:Nat}{sep:Str}(hs:∀ c∈sep.cps.toList,c < m):∀ zs:List Str,(∀ z∈zs,∀ c∈z.cps.toList,c < m)->∀ c∈(Str.join sep zs).cps.toList,c < m
 | [],_=>fun c hc=>by simp[Str.join,Str.empty]at hc
 | [x],h=>fun c hc=>h x List.mem_cons_self c hc
 | x::y::r,h=>fun c hc=>by
   have ih:=pP hs (y::r) fun z hz=>h z (List.mem_cons_of_mem _ hz)
   have e:(Str.join sep (x::y::r)).cps.toList=x.cps.toList++sep.cps.toList++(Str.join sep (y::r)).cps.toList:=by
    show(x++sep++Str.join sep (y::r)).cps.toList=_
    rw[Str.cps_append,Str.cps_append,Array.toList_append,Array.toList_append]
   rw[e]at hc
   rcases List.mem_append.mp hc with hc | hc
   ·rcases List.mem_append.mp hc with hc | hc
    ·exact h x List.mem_cons_self c hc
    ·exact hs c hc
   ·exact ih c hc
theorem yT{m:Nat}{sep:Str}(hs:∀ c∈sep.cps.toList,c < m)(zs:List Str)(h:∀ z∈zs,∀ c∈z.cps.toList,c < m):∀ c∈(PySem.Txt.join sep zs).cps.toList,c < m:=by
 show ∀ c∈(PySem.Builtin.Str.glued sep zs).cps.toList,c < m
 rw[StrLaws.glued_eq_join]
 exact pP hs zs h
theorem aM7:∀ c∈(Str.ofString "abcdefghijklmnopqrstuvwxyz").cps.toList,c < 128:=by decide
end Mr
namespace Dv
open PySem L2
inductive D where
 | non | bl (b:Bool) | int (i:Int) | str (x:Str) | tup (l:List D) | lst (l:List D) | dic (ks vs:List D)
noncomputable instance:DecidableEq D:=fun _ _=>Classical.propDecidable _
noncomputable instance:Inhabited D:=⟨.non⟩
noncomputable def cE3:Key->D
 | .inl i=>.int i
 | .inr x=>.str x
noncomputable def bH8:HO->List D->List V->Prop
 | .dK kvs,ks,ws=>ks=kvs.map (fun kv=>cE3 kv.1)/\ws=kvs.map (·.2)
 | .dT kvs,ks,ws=>ks=kvs.map (fun kv=>D.tup (kv.1.map cE3))/\ws=kvs.map (·.2)
 | _,_,_=>False
mutual
inductive Rp(H:Hp):D->V->Prop
 | non:Rp H .non .non
 | bl (b:Bool):Rp H (.bl b) (.bl b)
 | int (i:Int):Rp H (.int i) (.int i)
 | str (x:Str):Rp H (.str x) (.str x)
 | tup {l:List D} {p:Addr} {xs:List V}:H p=some (.tup xs)->Rps H l xs->Rp H (.tup l) (.ref p)
 | lst {l:List D} {p:Addr} {xs:List V} {o:Obj}:H p=some (.frz o (.lst xs))->Rps H l xs->Rp H (.lst l) (.ref p)
 | dic {ks vs:List D} {p:Addr} {o:Obj} {u:HO} {ws:List V}:H p=some (.frz o u)->bH8 u ks ws->Rps H vs ws->Rp H (.dic ks vs) (.ref p)
inductive Rps(H:Hp):List D->List V->Prop
 | nil:Rps H [] []
 | cons {d:D} {r:List D} {x:V} {xs:List V}:Rp H d x->Rps H r xs->Rps H (d::r) (x::xs)
end
structure Ext(H H':Hp):Prop where
 tup:∀ p xs,H p=some (.tup xs)->H' p=some (.tup xs)
 frz:∀ p o u,H p=some (.frz o u)->H' p=some (.frz o u)
theorem Ext.refl(H:Hp):Ext H H:=⟨fun _ _ h=>h,fun _ _ _ h=>h⟩
theorem Ext.trans{H H1 H2:Hp}(a:Ext H H1)(b:Ext H1 H2):Ext H H2:=⟨fun p xs h=>b.tup p xs (a.tup p xs h),fun p o u h=>b.frz p o u (a.frz p o u h)⟩
theorem Ext.same{H H':Hp}(h:Same H H'):Ext H H':=⟨fun p xs e=>h p _ e,fun p o u e=>h p _ e⟩
mutual
theorem Rp.mono{H H':Hp}(he:Ext H H'):∀ {d:D} {x:V},Rp H d x->Rp H' d x
 | _,_,.non=>.non
 | _,_,.bl b=>.bl b
 | _,_,.int i=>.int i
 | _,_,.str x=>.str x
 | _,_,.tup h r=>.tup (he.tup _ _ h) (Rps.mono he r)
 | _,_,.lst h r=>.lst (he.frz _ _ _ h) (Rps.mono he r)
 | _,_,.dic h k r=>.dic (he.frz _ _ _ h) k (Rps.mono he r)
theorem Rps.mono{H H':Hp}(he:Ext H H'):∀ {l:List D} {xs:List V},Rps H l xs->Rps H' l xs
 | _,_,.nil=>.nil
 | _,_,.cons a r=>.cons (Rp.mono he a) (Rps.mono he r)
end
section
variable{H:Hp}
theorem Rps.length:∀ {l:List D} {xs:List V},Rps H l xs->l.length=xs.length
 | _,_,.nil=>rfl
 | _,_,.cons _ r=>by simp[Rps.length r]
theorem Rps.get:∀ {l:List D} {xs:List V} {i:Nat} {d:D},Rps H l xs->l[i]? = some d->∃ x,xs[i]? = some x/\Rp H d x
 | _,_,_,_,.nil,h=>by simp at h
 | _,_,0,_,.cons a r,h=>by simp at h;subst h;exact⟨_,rfl,a⟩
 | _,_,i+1,_,.cons a r,h=>by
   obtain⟨x,e,q⟩:=Rps.get (i:=i) r (by simpa using h)
   exact⟨x,by simpa using e,q⟩
theorem Rps.get':∀ {l:List D} {xs:List V} {i:Nat} {x:V},Rps H l xs->xs[i]? = some x->∃ d,l[i]? = some d/\Rp H d x
 | _,_,_,_,.nil,h=>by simp at h
 | _,_,0,_,.cons a r,h=>by simp at h;subst h;exact⟨_,rfl,a⟩
 | _,_,i+1,_,.cons a r,h=>by
   obtain⟨x,e,q⟩:=Rps.get' (i:=i) r (by simpa using h)
   exact⟨x,by simpa using e,q⟩
theorem Rps.append:∀ {l m:List D} {xs ys:List V},Rps H l xs->Rps H m ys->Rps H (l++m) (xs++ys)
 | _,_,_,_,.nil,h=>h
 | _,_,_,_,.cons a r,h=>.cons a (Rps.append r h)
theorem Rps.take:∀ {l:List D} {xs:List V} (n:Nat),Rps H l xs->Rps H (l.take n) (xs.take n)
 | _,_,0,_=>.nil
 | _,_,_+1,.nil=>.nil
 | _,_,n+1,.cons a r=>.cons a (Rps.take n r)
theorem Rps.drop:∀ {l:List D} {xs:List V} (n:Nat),Rps H l xs->Rps H (l.drop n) (xs.drop n)
 | _,_,0,r=>r
 | _,_,_+1,.nil=>.nil
 | _,_,n+1,.cons _ r=>Rps.drop n r
theorem Rps.set:∀ {l:List D} {xs:List V} {d:D} {x:V} (i:Nat),Rps H l xs->Rp H d x->Rps H (l.set i d) (xs.set i x)
 | _,_,_,_,_,.nil,_=>.nil
 | _,_,_,_,0,.cons _ r,q=>.cons q r
 | _,_,_,_,i+1,.cons a r,q=>.cons a (Rps.set i r q)
theorem Rps.eraseIdx:∀ {l:List D} {xs:List V} (i:Nat),Rps H l xs->Rps H (l.eraseIdx i) (xs.eraseIdx i)
 | _,_,_,.nil=>.nil
 | _,_,0,.cons _ r=>r
 | _,_,i+1,.cons a r=>.cons a (Rps.eraseIdx i r)
theorem Rps.reverse:∀ {l:List D} {xs:List V},Rps H l xs->Rps H l.reverse xs.reverse
 | _,_,.nil=>.nil
 | _,_,.cons a r=>by
   rw[List.reverse_cons,List.reverse_cons]
   exact Rps.append (Rps.reverse r) (.cons a .nil)
theorem lL:∀ ns:List Int,Rps H (ns.map D.int) (ns.map V.int)
 | []=>.nil
 | n::r=>.cons (.int n) (lL r)
theorem Rps.ints_inv:∀ {ns:List Int} {xs:List V},Rps H (ns.map D.int) xs->xs=ns.map V.int
 | [],_,h=>by cases h;rfl
 | n::r,_,h=>by
   rw[List.map_cons]at h
   cases h with
   | cons a t=>cases a;rw[Rps.ints_inv t];rfl
theorem Rps.strs_inv:∀ {ns:List Str} {xs:List V},Rps H (ns.map D.str) xs->xs=ns.map V.str
 | [],_,h=>by cases h;rfl
 | n::r,_,h=>by
   rw[List.map_cons]at h
   cases h with
   | cons a t=>cases a;rw[Rps.strs_inv t];rfl
theorem Rps.bls_inv:∀ {ns:List Bool} {xs:List V},Rps H (ns.map D.bl) xs->xs=ns.map V.bl
 | [],_,h=>by cases h;rfl
 | n::r,_,h=>by
   rw[List.map_cons]at h
   cases h with
   | cons a t=>cases a;rw[Rps.bls_inv t];rfl
end
inductive Md where
 | val | own | par | lent
 deriving DecidableEq
noncomputable def Md.mt:Md->Bool
 | .own=>true
 | .par=>true
 | _=>false
structure Sl where
 m:Md
 d:D
noncomputable abbrev Sg:=List (Option Sl)
noncomputable def cW(H:Hp)(d:D)(p:Addr):Prop:=match d with
 | .lst l=>∃ xs,H p=some (.lst xs)/\Rps H l xs
 | .dic ks vs=>∃ u ws,H p=some u/\bH8 u ks ws/\Rps H vs ws
 | _=>False
theorem cW.mono{H H':Hp}{d:D}{p:Addr}(h:cW H d p)(e:Ext H H')(hp:∀ o,H p=some o->H' p=some o):cW H' d p:=by
 unfold cW at h ⊢
 split at h
 ·obtain⟨xs,h1,h2⟩:=h;exact⟨xs,hp _ h1,h2.mono e⟩
 ·obtain⟨u,ws,h1,h2,h3⟩:=h;exact⟨u,ws,hp _ h1,h2,h3.mono e⟩
 ·exact h.elim
theorem cW.obj{H:Hp}{d:D}{p:Addr}(h:cW H d p):∃ o,H p=some o/\(∀ xs,o≠.tup xs)/\∀ ob u,o≠.frz ob u:=by
 unfold cW at h
 split at h
 ·obtain⟨xs,h1,h2⟩:=h;exact⟨_,h1,⟨fun _ z=>(by cases z),fun _ _ z=>(by cases z)⟩⟩
 ·obtain⟨u,ws,h1,h2,h3⟩:=h
  refine⟨_,h1,fun _ z=>?_,fun _ _ z=>?_⟩<;>(subst z;exact h2)
 ·exact h.elim
noncomputable def aY0(H:Hp)(s:Sl)(v:V):Prop:=match s.m with
 | .val=>Rp H s.d v
 | _=>∃ p,v=.ref p/\cW H s.d p
theorem cP{H:Hp}{s:Sl}{v:V}(h:s.m≠.val):aY0 H s v↔∃ p,v=.ref p/\cW H s.d p:=by
 obtain⟨m,d⟩:=s
 cases m with
 | val=>exact absurd rfl h
 | own=>exact Iff.rfl
 | par=>exact Iff.rfl
 | lent=>exact Iff.rfl
noncomputable def Vw(H:Hp)(d:D)(v:V):Prop:=Rp H d v\/∃ p,v=.ref p/\cW H d p
theorem aY0.vw{H:Hp}{s:Sl}{v:V}(h:aY0 H s v):Vw H s.d v:=by
 by_cases e:s.m=.val
 ·obtain⟨m,d⟩:=s;cases e;exact .inl h
 ·exact .inr ((cP e).mp h)
inductive Vws(H:Hp):List D->List V->Prop
 | nil:Vws H [] []
 | cons {d:D} {r:List D} {x:V} {xs:List V}:Vw H d x->Vws H r xs->Vws H (d::r) (x::xs)
noncomputable def kB(σ:Sg)(σV:St)(a:Addr):Prop:=∃ (i:Nat) (s:Sl),σ[i]? = some (some s)/\s.m.mt=true/\σV[i]? = some (some (.ref a))
noncomputable def aM8(σ:Sg)(σV:St)(a:Addr):Prop:=∃ (i:Nat) (s:Sl),σ[i]? = some (some s)/\s.m≠.val/\σV[i]? = some (some (.ref a))
theorem kB.nv{σ:Sg}{σV:St}{a:Addr}(h:kB σ σV a):aM8 σ σV a:=by
 obtain⟨i,s,h1,h2,h3⟩:=h
 exact⟨i,s,h1,fun z=>(by rw[z]at h2;cases h2),h3⟩
structure Gm where
 H₀:Hp
 pr:Addr->Prop
structure StOk(Γ:Gm)(H:Hp)(σ:Sg)(σV:St):Prop where
 rel:∀ (i:Nat) s,σ[i]? = some (some s)->∃ v,σV[i]? = some (some v)/\aY0 H s v
 dis:∀ (i j:Nat) s t p,i≠j->σ[i]? = some (some s)->σ[j]? = some (some t)->s.m.mt=true->t.m≠.val->σV[i]? = some (some (.ref p))->σV[j]? = some (some (.ref p))->False
 own:∀ (i:Nat) s p,σ[i]? = some (some s)->s.m=.own->σV[i]? = some (some (.ref p))->Γ.H₀ p=none
 par:∀ (i:Nat) s p,σ[i]? = some (some s)->s.m=.par->σV[i]? = some (some (.ref p))->Γ.pr p
 keep:∀ a o,Γ.H₀ a=some o->¬ Γ.pr a->H a=some o
 dom:∀ a,H a=none->Γ.H₀ a=none
 len:σ.length=σV.length
structure Step(σ:Sg)(σV:St)(H:Hp)(σ':Sg)(σV':St)(H':Hp):Prop where
 fr:∀ a o,H a=some o->¬ kB σ σV a->H' a=some o
 dom:∀ a,H' a=none->H a=none
 mu:∀ a,kB σ' σV' a->kB σ σV a\/H a=none
 nv:∀ a,aM8 σ' σV' a->aM8 σ σV a\/H a=none
 kp:∀ (i:Nat) s,σ[i]? = some (some s)->∃ s',σ'[i]? = some (some s')
 fix:∀ (i:Nat) s,σ[i]? = some (some s)->(s.m=.par\/s.m=.lent)->∃ s',σ'[i]? = some (some s')/\s'.m=s.m/\(s.m=.lent->s'.d=s.d)/\σV'[i]? = σV[i]?
 lt:∀ (i:Nat) s',σ'[i]? = some (some s')->s'.m=.lent->∃ s,σ[i]? = some (some s)/\s.m=.lent
section
variable{σ σ1 σ2:Sg}{σV σV1 σV2:St}{H H1 H2:Hp}{Γ:Gm}
theorem Step.refl:Step σ σV H σ σV H:=⟨fun _ _ h _=>h,fun _ h=>h,fun _ h=>.inl h,fun _ h=>.inl h,fun i s h=>⟨s,h⟩,fun i s h _=>⟨s,h,rfl,fun _=>rfl,rfl⟩,fun i s h m=>⟨s,h,m⟩⟩
theorem Step.trans(a:Step σ σV H σ1 σV1 H1)(b:Step σ1 σV1 H1 σ2 σV2 H2):Step σ σV H σ2 σV2 H2 where
 fr:=fun c o h n=>b.fr c o (a.fr c o h n) fun z=>by
  rcases a.mu c z with q | q
  ·exact n q
  ·rw[h]at q;cases q
 dom:=fun c h=>a.dom c (b.dom c h)
 mu:=fun c h=>by
  rcases b.mu c h with q | q
  ·exact a.mu c q
  ·exact .inr (a.dom c q)
 nv:=fun c h=>by
  rcases b.nv c h with q | q
  ·exact a.nv c q
  ·exact .inr (a.dom c q)
 kp:=fun i s h=>by
  obtain⟨s1,h1⟩:=a.kp i s h
  exact b.kp i s1 h1
 fix:=fun i s h hm=>by
  obtain⟨s1,h1,m1,d1,v1⟩:=a.fix i s h hm
  obtain⟨s2,h2,m2,d2,v2⟩:=b.fix i s1 h1 (by rw[m1];exact hm)
  exact⟨s2,h2,m2.trans m1,fun z=>(d2 (m1.trans z)).trans (d1 z),v2.trans v1⟩
 lt:=fun i s h m=>by
  obtain⟨s1,h1,m1⟩:=b.lt i s h m
  exact a.lt i s1 h1 m1
theorem StOk.mutObj(ok:StOk Γ H σ σV){a:Addr}(h:aM8 σ σV a):∃ o,H a=some o/\(∀ xs,o≠.tup xs)/\∀ ob u,o≠.frz ob u:=by
 obtain⟨i,s,h1,h2,h3⟩:=h
 obtain⟨v,e,r⟩:=ok.rel i s h1
 rw[h3]at e;cases e
 obtain⟨p,e,q⟩:=(cP h2).mp r
 cases e
 exact q.obj
theorem Step.ext(st:Step σ σV H σ1 σV1 H1)(ok:StOk Γ H σ σV):Ext H H1:=by
 refine⟨fun p xs h=>st.fr p _ h fun z=>?_,fun p o u h=>st.fr p _ h fun z=>?_⟩
 ·obtain⟨o,e,n,_⟩:=ok.mutObj z.nv;rw[h]at e;cases e;exact n _ rfl
 ·obtain⟨o,e,_,n⟩:=ok.mutObj z.nv;rw[h]at e;cases e;exact n _ _ rfl
theorem aY0.mono{s:Sl}{v:V}(r:aY0 H s v)(e:Ext H H1)(hp:∀ p o,v=.ref p->s.m≠.val->H p=some o->H1 p=some o):aY0 H1 s v:=by
 by_cases q:s.m=.val
 ·obtain⟨m,d⟩:=s;cases q;exact Rp.mono e r
 ·obtain⟨p,e1,r1⟩:=(cP q).mp r
  exact(cP q).mpr ⟨p,e1,r1.mono e fun o=>hp p o e1 q⟩
theorem StOk.same(ok:StOk Γ H σ σV)(h:Same H H1):StOk Γ H1 σ σV:=
 ⟨fun i s e=>by
  obtain⟨v,e1,r⟩:=ok.rel i s e
  exact⟨v,e1,r.mono (.same h) fun p o _ _ q=>h p o q⟩,ok.dis,ok.own,ok.par,fun a o e n=>h a o (ok.keep a o e n),fun a e=>ok.dom a (by
  cases q:H a with
  | none=>rfl
  | some o=>rw[h a o q]at e;cases e),ok.len⟩
theorem aM9(h:Same H H1){a:Addr}(e:H1 a=none):H a=none:=by
 cases q:H a with
 | none=>rfl
 | some o=>rw[h a o q]at e;cases e
theorem Step.same(h:Same H H1):Step σ σV H σ σV H1:=⟨fun a o e _=>h a o e,fun a e=>aM9 h e,fun _ h=>.inl h,fun _ h=>.inl h,fun i s h=>⟨s,h⟩,fun i s h _=>⟨s,h,rfl,fun _=>rfl,rfl⟩,fun i s h m=>⟨s,h,m⟩⟩
end
inductive Res where
 | val (d:D) | own (d:D) | slot (i:Nat)
noncomputable def iV(Γ:Gm)(H:Hp)(σ:Sg)(σV:St)(r:Res)(v:V):Prop:=match r with
 | .val d=>Rp H d v
 | .own d=>∃ p,v=.ref p/\cW H d p/\¬ aM8 σ σV p/\Γ.H₀ p=none
 | .slot i=>σV[i]? = some (some v)/\∃ s,σ[i]? = some (some s)
noncomputable def rd(σ:Sg):Res->Option D
 | .val d=>some d
 | .own d=>some d
 | .slot i=>match σ[i]? with
   | some (some s)=>some s.d
   | _=>none
section
variable{σ σ1:Sg}{σV σV1:St}{H H1:Hp}{Γ:Gm}{r:Res}{v:V}{d:D}
theorem iV.vw(ok:StOk Γ H σ σV)(h:iV Γ H σ σV r v)(e:rd σ r=some d):Vw H d v:=by
 cases r with
 | val d'=>cases e;exact .inl h
 | own d'=>cases e;obtain⟨p,e1,e2,_⟩:=h;exact .inr ⟨p,e1,e2⟩
 | slot i=>
   obtain⟨h1,s,h2⟩:=h
   have e':some s.d=some d:=by
    have:rd σ (.slot i)=some s.d:=by show(match σ[i]? with | some (some s)=>some s.d | _=>none)=_;rw[h2]
    rw[← this];exact e
   cases e'
   obtain⟨w,e1,e2⟩:=ok.rel i s h2
   rw[h1]at e1;cases e1
   exact e2.vw
theorem iV.step(ok:StOk Γ H σ σV)(h:iV Γ H σ σV r v)(st:Step σ σV H σ1 σV H1):iV Γ H1 σ1 σV r v:=by
 cases r with
 | val d=>exact Rp.mono (st.ext ok) h
 | own d=>
   obtain⟨p,e1,e2,e3,e4⟩:=h
   obtain⟨o,ho,_⟩:=e2.obj
   refine⟨p,e1,e2.mono (st.ext ok) fun o h=>st.fr p o h fun z=>e3 z.nv,fun z=>?_,e4⟩
   rcases st.nv p z with q | q
   ·exact e3 q
   ·rw[ho]at q;cases q
 | slot i=>
   obtain⟨h1,s,h2⟩:=h
   exact⟨h1,st.kp i s h2⟩
end
noncomputable abbrev DE:=Sg->Option (Res×Sg)
noncomputable abbrev DT:=Sg->Option (Bool×Sg)
noncomputable abbrev DA:=Sg->Option (List Res×Sg)
inductive ResOks(Γ:Gm)(H:Hp)(σ:Sg)(σV:St):List Res->List V->Prop
 | nil:ResOks Γ H σ σV [] []
 | cons {r:Res} {rs:List Res} {v:V} {vs:List V}:iV Γ H σ σV r v->ResOks Γ H σ σV rs vs->(∀ d p,r=.own d->v=.ref p->∀ (j:Nat) d',rs[j]? = some (.own d')->vs[j]? ≠ some (.ref p))->ResOks Γ H σ σV (r::rs) (v::vs)
noncomputable def Frh(H:Hp)(r:Res)(v:V):Prop:=∀ d p,r=.own d->v=.ref p->H p=none
theorem fF{H:Hp}{d:D}{v:V}:Frh H (.val d) v:=fun _ _ e=>nomatch e
theorem Frh.back{H H1:Hp}{r:Res}{v:V}{σ σ1:Sg}{σV σV1:St}(f:Frh H1 r v)(st:Step σ σV H σ1 σV1 H1):Frh H r v:=fun d p e1 e2=>st.dom p (f d p e1 e2)
noncomputable def dTE(Γ:Gm)(r:DE):TE:=fun σV H Q=>∃ σ,StOk Γ H σ σV/\∃ res σ',r σ=some (res,σ') /\
 ∀ v H',StOk Γ H' σ' σV->iV Γ H' σ' σV res v->Step σ σV H σ' σV H'->Frh H res v->Q v H'
end Dv
namespace Dv
open PySem L2
theorem peW{X:Cx}{e:Expr}{t t':TE}(h:PE X e t)(w:∀ σ H Q,t' σ H Q->t σ H Q):PE X e t':=fun pins s σ H Q I q=>h pins s σ H Q I (w σ H Q q)
theorem ptW{X:Cx}{e:Expr}{t t':TT}(h:PT X e t)(w:∀ σ H Q,t' σ H Q->t σ H Q):PT X e t':=fun pins s σ H Q I q=>h pins s σ H Q I (w σ H Q q)
theorem pwW{X:Cx}{e:Expr}{t t':TT}(h:PW X e t)(w:∀ σ H Q,t' σ H Q->t σ H Q):PW X e t':=fun wh pins s σ H Q I q=>h wh pins s σ H Q I (w σ H Q q)
theorem paW{X:Cx}{e:List Expr}{t t':TA}(h:PA X e t)(w:∀ σ H Q,t' σ H Q->t σ H Q):PA X e t':=fun pos pins s σ H Q I q=>h pos pins s σ H Q I (w σ H Q q)
theorem psW{X:Cx}{e:Stmt}{t t':TS}(h:PS X e t)(w:∀ D σ H,t' D σ H->t D σ H):PS X e t':=fun pins s σ H D I q=>h pins s σ H D I (w D σ H q)
theorem cE4{X:Cx}{e:List Stmt}{t t':TS}(h:PSs X e t)(w:∀ D σ H,t' D σ H->t D σ H):PSs X e t':=fun pins s σ H D I q=>h pins s σ H D I (w D σ H q)
structure GE(X:Cx)(e:Expr)(r:DE):Prop where
 to:∀ Γ,PE X e (dTE Γ r)
noncomputable def dTT(Γ:Gm)(r:DT):TT:=fun σV H Q=>∃ σ,StOk Γ H σ σV/\∃ b σ',r σ=some (b,σ')/\∀ H',StOk Γ H' σ' σV->Step σ σV H σ' σV H'->Q b H'
structure GT(X:Cx)(e:Expr)(r:DT):Prop where
 to:∀ Γ,PT X e (dTT Γ r)
structure GW(X:Cx)(e:Expr)(r:DT):Prop where
 to:∀ Γ,PW X e (dTT Γ r)
theorem GW.gt{X:Cx}{e:Expr}{r:DT}(h:GW X e r):GT X e r:=.mk fun Γ=>(h.to Γ).pt
noncomputable def cH8(H:Hp)(rs:List Res)(vs:List V):Prop:=∀ (j:Nat) d p,rs[j]? = some (.own d)->vs[j]? = some (.ref p)->H p=none
noncomputable def dTA(Γ:Gm)(r:DA):TA:=fun σV H Q=>∃ σ,StOk Γ H σ σV/\∃ rs σ',r σ=some (rs,σ')/\∀ vs H',StOk Γ H' σ' σV->ResOks Γ H' σ' σV rs vs->Step σ σV H σ' σV H'->cH8 H rs vs->Q vs H'
structure GA(X:Cx)(es:List Expr)(r:DA):Prop where
 to:∀ Γ,PA X es (dTA Γ r)
noncomputable def aI(i:Nat):DE:=fun σ=>match σ[i]? with
 | some (some s)=>some (if s.m=.val then .val s.d else .slot i,σ)
 | _=>none
theorem aB{X:Cx}{e:Expr}{i:Nat}(h:PE X e (bO7 i)):GE X e (aI i):=.mk fun Γ=>peW h fun σV H Q ⟨σ,ok,res,σ',e,k⟩=>by
 unfold aI at e
 split at e
 ·rename_i s hs
  cases e
  obtain⟨v,hv,r⟩:=ok.rel i s hs
  refine⟨v,hv,k v H ok ?_ .refl (by split<;>exact fun _ _ e=>nomatch e)⟩
  by_cases hm:s.m=.val
  ·rw[if_pos hm];obtain⟨m,d⟩:=s;cases hm;exact r
  ·rw[if_neg hm];exact⟨hv,s,hs⟩
 ·cases e
noncomputable def dC(d:D):DE:=fun σ=>some (.val d,σ)
theorem cB4{X:Cx}{e:Expr}{v:V}{d:D}(h:PE X e (tC v))(hr:∀ H,Rp H d v):GE X e (dC d):=.mk fun Γ=>peW h fun σV H Q ⟨σ,ok,res,σ',e,k⟩=>by
 cases e;exact k v H ok (hr H) .refl fF
theorem ge_int{X:Cx}{i:Int}{j pos}:GE X (.Constant (.int i) j pos) (dC (.int i)):=cB4 bO9 fun _=>.int i
theorem yU{X:Cx}{i:Bool}{j pos}:GE X (.Constant (.bool i) j pos) (dC (.bl i)):=cB4 bZ3 fun _=>.bl i
theorem fN{X:Cx}{i:Str}{j pos}:GE X (.Constant (.str i) j pos) (dC (.str i)):=cB4 bB7 fun _=>.str i
noncomputable def aH5(H H':Hp)(r:Res)(v:V):Prop:=match r with
 | .val d=>Rp H' d v
 | .own d=>∃ p,v=.ref p/\H p=none/\cW H' d p
 | .slot _=>False
theorem aH5.frh{H H':Hp}{r:Res}{v:V}(h:aH5 H H' r v):Frh H r v:=fun d p e1 e2=>by
 subst e1 e2
 obtain⟨q,e,h1,_⟩:=h
 cases e;exact h1
theorem aH5.res{Γ:Gm}{H H':Hp}{σ:Sg}{σV:St}{r:Res}{v:V}(h:aH5 H H' r v)(ok:StOk Γ H σ σV):iV Γ H' σ σV r v:=by
 cases r with
 | val d=>exact h
 | own d=>
   obtain⟨p,e1,e2,e3⟩:=h
   refine⟨p,e1,e3,fun z=>?_,ok.dom p e2⟩
   obtain⟨o,e,_⟩:=ok.mutObj z
   rw[e2]at e;cases e
 | slot i=>exact h.elim
noncomputable abbrev F1:=D->Option Res
noncomputable abbrev F2:=D->D->Option Res
noncomputable abbrev FN:=List D->Option Res
noncomputable def cB5(rr:V->Hp->VK->Prop)(f:F1):Prop:=∀ H d x Q res,Vw H d x->f d=some res->(∀ v H',Same H H'->aH5 H H' res v->Q v H')->rr x H Q
noncomputable def rZ(rr:R2)(f:F2):Prop:=∀ H d1 d2 x y Q res,Vw H d1 x->Vw H d2 y->f d1 d2=some res->(∀ v H',Same H H'->aH5 H H' res v->Q v H')->rr x y H Q
noncomputable def aY1(rr:List V->Hp->VK->Prop)(f:FN):Prop:=∀ H ds vs Q res,Vws H ds vs->f ds=some res->(∀ v H',Same H H'->aH5 H H' res v->Q v H')->rr vs H Q
noncomputable def aJ5(f:F1)(ra:DE):DE:=fun σ=>(ra σ).bind fun x=>(rd x.2 x.1).bind fun d=>(f d).bind fun r=>some (r,x.2)
noncomputable def aZ(f:F2)(ra rb:DE):DE:=fun σ=>(ra σ).bind fun x=>(rb x.2).bind fun y=>(rd y.2 x.1).bind fun d=>(rd y.2 y.1).bind fun e=>(f d e).bind fun r=>some (r,y.2)
theorem aC{α β:Type}{o:Option α}{f:α->Option β}{b:β}(h:o.bind f=some b):∃ a,o=some a/\f a=some b:=by
 cases o with
 | none=>cases h
 | some a=>exact⟨a,rfl,h⟩
theorem lM{Γ:Gm}{rr:R2}{f:F2}(hp:rZ rr f){ra rb:DE}{σV:St}{H:Hp}{Q:VK}(h:dTE Γ (aZ f ra rb) σV H Q):tOp rr (dTE Γ ra) (dTE Γ rb) σV H Q:=by
 obtain⟨σ,ok,res,σ',e,k⟩:=h
 obtain⟨⟨x,σ1⟩,e1,e⟩:=aC e
 obtain⟨⟨y,σ2⟩,e2,e⟩:=aC e
 obtain⟨d1,e3,e⟩:=aC e
 obtain⟨d2,e4,e⟩:=aC e
 obtain⟨r,e5,e⟩:=aC e
 cases e
 refine⟨σ,ok,x,σ1,e1,fun v1 H1 ok1 r1 st1 _=>⟨σ1,ok1,y,σ2,e2,fun v2 H2 ok2 r2 st2 _=>?_⟩⟩
 have r1':=r1.step ok1 st2
 refine hp H2 d1 d2 v1 v2 Q _ (r1'.vw ok2 e3) (r2.vw ok2 e4) e5 fun v H' sm nw=>?_
 exact k v H' (ok2.same sm) (nw.res ok2) ((st1.trans st2).trans (.same sm)) (nw.frh.back (st1.trans st2))
theorem aY2{Γ:Gm}{rr:V->Hp->VK->Prop}{f:F1}(hp:cB5 rr f){ra:DE}{σV:St}{H:Hp}{Q:VK}(h:dTE Γ (aJ5 f ra) σV H Q):tUn rr (dTE Γ ra) σV H Q:=by
 obtain⟨σ,ok,res,σ',e,k⟩:=h
 obtain⟨⟨x,σ1⟩,e1,e⟩:=aC e
 obtain⟨d1,e3,e⟩:=aC e
 obtain⟨r,e5,e⟩:=aC e
 cases e
 refine⟨σ,ok,x,σ1,e1,fun v1 H1 ok1 r1 st1 _=>?_⟩
 refine hp H1 d1 v1 Q _ (r1.vw ok1 e3) e5 fun v H' sm nw=>?_
 exact k v H' (ok1.same sm) (nw.res ok1) (st1.trans (.same sm)) (nw.frh.back st1)
section
variable{X:Cx}{a b:Expr}{ra rb:DE}{pos:Pos}
theorem aS{op:Operator}{rr:R2}{f:F2}(ho:OpR X (binaryOp op) rr)(hp:rZ rr f)(ha:GE X a ra)(hb:GE X b rb):GE X (.BinOp a op b pos) (aZ f ra rb):=
 .mk fun Γ=>peW (cA2 ho (ha.to Γ) (hb.to Γ)) fun _ _ _=>lM hp
theorem pQ{op:CmpOp}{rr:R2}{f:F2}(ho:OpR X (compareOp op) rr)(hp:rZ rr f)(ha:GE X a ra)(hb:GE X b rb)(hm:behindInMarks op b=false):GE X (.Compare a [op] [b] pos) (aZ f ra rb):=
 .mk fun Γ=>peW (bF2 ho (ha.to Γ) (hb.to Γ) hm) fun _ _ _=>lM hp
noncomputable def gO(r:DE):DT:=fun σ=>(r σ).bind fun x=>(rd x.2 x.1).bind fun d=>match d with
 | .bl b=>some (b,x.2)
 | _=>none
theorem qO{r:DE}{σ σ':Sg}{b:Bool}(h:gO r σ=some (b,σ')):∃ x,r σ=some (x,σ')/\rd σ' x=some (.bl b):=by
 obtain⟨⟨x,σ1⟩,e1,e⟩:=aC h
 obtain⟨d,e2,e⟩:=aC e
 dsimp only at e e2
 split at e
 ·cases e;exact⟨x,e1,e2⟩
 ·cases e
theorem aN0{H:Hp}{b:Bool}{v:V}(h:Vw H (.bl b) v):v=.bl b:=by
 rcases h with h | ⟨p,_,h⟩
 ·cases h;rfl
 ·exact h.elim
theorem aB2{Γ:Gm}{r:DE}{σV:St}{H:Hp}{Q:Bool->Hp->Prop}(h:dTT Γ (gO r) σV H Q):dTE Γ r σV H (fun x H'=>∃ k,x=.bl k/\Q k H'):=by
 obtain⟨σ,ok,b,σ',e,k⟩:=h
 obtain⟨x,e1,e2⟩:=qO e
 refine⟨σ,ok,x,σ',e1,fun v H' ok' r' st _=>⟨b,aN0 (r'.vw ok' e2),k H' ok' st⟩⟩
theorem eQ{op:CmpOp}{rr:R2}{f:F2}(ho:OpR X (compareOp op) rr)(hp:rZ rr f)(ha:GE X a ra)(hb:GE X b rb)(hm:behindInMarks op b=false):GT X (.Compare a [op] [b] pos) (gO (aZ f ra rb)):=
 .mk fun Γ=>ptW (bF3 ho (ha.to Γ) (hb.to Γ) hm) fun σ H Q h=>lM hp (aB2 h)
theorem iP{e:Expr}{r:DE}(h:GE X e r)(he:∀ whole,isTrue e X.env whole=(do let v ← whole;standAt e.pos;holding [v] (truthy v)):=by intro _;rfl):GT X e (gO r):=
 .mk fun Γ=>ptW (bP0 (h.to Γ) he) fun _ _ _ h=>aB2 h
end
theorem eG{H:Hp}{l:List D}{v:V}(h:Vw H (.tup l) v):∃ p xs,v=.ref p/\H p=some (.tup xs)/\Rps H l xs:=by
 rcases h with h | ⟨p,_,h⟩
 ·cases h with
  | tup h r=>exact⟨_,_,rfl,h,r⟩
 ·exact h.elim
theorem gU{H:Hp}{l:List D}{v:V}(h:Vw H (.lst l) v):∃ p xs,v=.ref p/\fA H p=some (true,xs)/\Rps H l xs:=by
 rcases h with h | ⟨p,e,xs,h,r⟩
 ·cases h with
  | lst h r=>exact⟨_,_,rfl,aW8 h,r⟩
 ·exact⟨p,xs,e,aW7 h,r⟩
theorem cX{H:Hp}{i:Int}{v:V}(h:Vw H (.int i) v):v=.int i:=by
 rcases h with h | ⟨p,_,h⟩
 ·cases h;rfl
 ·exact h.elim
theorem gW{H:Hp}{i:Str}{v:V}(h:Vw H (.str i) v):v=.str i:=by
 rcases h with h | ⟨p,_,h⟩
 ·cases h;rfl
 ·exact h.elim
theorem bS9{H:Hp}{v:V}(h:Vw H .non v):v=.non:=by
 rcases h with h | ⟨p,_,h⟩
 ·cases h;rfl
 ·exact h.elim
noncomputable def bL9:D->Option (Bool×List D)
 | .lst l=>some (true,l)
 | .tup l=>some (false,l)
 | _=>none
theorem bC5{H:Hp}{d:D}{v:V}{b:Bool}{l:List D}(h:Vw H d v)(e:bL9 d=some (b,l)):∃ p xs,v=.ref p/\fA H p=some (b,xs)/\Rps H l xs:=by
 cases d with
 | lst l'=>cases e;exact gU h
 | tup l'=>cases e;obtain⟨p,xs,e1,e2,e3⟩:=eG h;exact⟨p,xs,e1,cN e2,e3⟩
 | _=>cases e
section
variable{X:Cx}{a b:Expr}{ra rb:DE}{pos:Pos}
variable{tA tB:DT}{eE:List Expr}
noncomputable def bT0(t u:DT):DT:=fun σ=>(t σ).bind fun x=>if x.1=true then u x.2 else some (false,x.2)
noncomputable def dOr(t u:DT):DT:=fun σ=>(t σ).bind fun x=>if x.1=true then some (true,x.2)else u x.2
noncomputable def aB3(t:DT):DT:=fun σ=>(t σ).bind fun x=>some (!x.1,x.2)
theorem aN1(ha:GT X a tA):GW X (.BoolOp .And [a] pos) tA:=.mk fun Γ=>bE8 (ha.to Γ)
theorem aB4(ha:GT X a tA):GW X (.BoolOp .Or [a] pos) tA:=.mk fun Γ=>bP1 (ha.to Γ)
theorem bC6(ha:GT X a tA)(hb:GW X (.BoolOp .And (b::eE) pos) tB):GW X (.BoolOp .And (a::b::eE) pos) (bT0 tA tB):=.mk fun Γ=>pwW (bP2 (ha.to Γ) (hb.to Γ)) fun σV H Q ⟨σ,ok,c,σ',e,k⟩=>by
 obtain⟨⟨x,σ1⟩,e1,e⟩:=aC e
 refine⟨σ,ok,x,σ1,e1,fun H1 ok1 st1=>?_⟩
 dsimp only at e
 split at e
 ·rename_i hx;rw[if_pos hx];exact⟨σ1,ok1,c,σ',e,fun H2 ok2 st2=>k H2 ok2 (st1.trans st2)⟩
 ·rename_i hx;rw[if_neg hx];cases e;exact k H1 ok1 st1
theorem aH6(ha:GT X a tA)(hb:GW X (.BoolOp .Or (b::eE) pos) tB):GW X (.BoolOp .Or (a::b::eE) pos) (dOr tA tB):=.mk fun Γ=>pwW (bZ4 (ha.to Γ) (hb.to Γ)) fun σV H Q ⟨σ,ok,c,σ',e,k⟩=>by
 obtain⟨⟨x,σ1⟩,e1,e⟩:=aC e
 refine⟨σ,ok,x,σ1,e1,fun H1 ok1 st1=>?_⟩
 dsimp only at e
 split at e
 ·rename_i hx;rw[if_pos hx];cases e;exact k H1 ok1 st1
 ·rename_i hx;rw[if_neg hx];exact⟨σ1,ok1,c,σ',e,fun H2 ok2 st2=>k H2 ok2 (st1.trans st2)⟩
theorem iQ(ha:GT X a tA):GT X (.UnaryOp .Not a pos) (aB3 tA):=.mk fun Γ=>ptW (bP3 (ha.to Γ)) fun σV H Q ⟨σ,ok,c,σ',e,k⟩=>by
 obtain⟨⟨x,σ1⟩,e1,e⟩:=aC e
 cases e
 exact⟨σ,ok,x,_,e1,fun H1 ok1 st1=>k H1 ok1 st1⟩
noncomputable def sA(t u:DE):DE:=fun σ=>(gO t σ).bind fun x=>if x.1=true then u x.2 else some (.val (.bl false),x.2)
noncomputable def aY3(t:DE):DE:=fun σ=>(gO t σ).bind fun x=>some (.val (.bl (!x.1)),x.2)
theorem aB5{op}{r:DE}(h:GE X a r):GE X (.BoolOp op [a] pos) r:=.mk fun Γ=>bP4 (h.to Γ)
theorem aB6(ha:GE X a ra)(hb:GE X (.BoolOp .And (b::eE) pos) rb):GE X (.BoolOp .And (a::b::eE) pos) (sA ra rb):=.mk fun Γ=>peW (bP5 (ha.to Γ) (hb.to Γ)) fun σV H Q ⟨σ,ok,c,σ',e,k⟩=>by
 obtain⟨⟨x,σ1⟩,e1,e⟩:=aC e
 obtain⟨y,e2,e3⟩:=qO e1
 refine⟨σ,ok,y,σ1,e2,fun v H1 ok1 r1 st1 _=>⟨x,aN0 (r1.vw ok1 e3),?_⟩⟩
 dsimp only at e
 split at e
 ·rename_i hx;rw[if_pos hx];exact⟨σ1,ok1,c,σ',e,fun v2 H2 ok2 r2 st2 f2=>k v2 H2 ok2 r2 (st1.trans st2) (f2.back st1)⟩
 ·rename_i hx;rw[if_neg hx];cases e;exact k _ H1 ok1 (.bl false) st1 fF
theorem bT1(ha:GE X a ra):GE X (.UnaryOp .Not a pos) (aY3 ra):=.mk fun Γ=>peW (bP6 (ha.to Γ)) fun σV H Q ⟨σ,ok,c,σ',e,k⟩=>by
 obtain⟨⟨x,σ1⟩,e1,e⟩:=aC e
 obtain⟨y,e2,e3⟩:=qO e1
 cases e
 exact⟨σ,ok,y,_,e2,fun v H1 ok1 r1 st1 _=>⟨x,aN0 (r1.vw ok1 e3),k _ H1 ok1 (.bl _) st1 fF⟩⟩
noncomputable def bC7(f g:F2)(ra rb rc:DE):DE:=fun σ=>(ra σ).bind fun x=>(rb x.2).bind fun y=>(rd y.2 x.1).bind fun d=>(rd y.2 y.1).bind fun e=>match f d e with
 | some (.val (.bl true))=>(rc y.2).bind fun z=>(rd z.2 y.1).bind fun e=>(rd z.2 z.1).bind fun h=>(g e h).bind fun r=>some (r,z.2)
 | some (.val (.bl false))=>some (.val (.bl false),y.2)
 | _=>none
end
end Dv
namespace Dv
open PySem L2
noncomputable def Fz:HO->Prop
 | .lst _=>True
 | .dK _=>True
 | .dT _=>True
 | _=>False
theorem bH9{X:Cx}{pins:List (Addr×Obj)}{σ:St}{H:Hp}{s:Shared}{p:Addr}{u:HO}(I:Inv X pins σ H s)(h:H p=some u)(hu:Fz u):∃ o,Inv X pins σ (upd H p (.frz o u)) s:=by
 have nt:∀ b xs,H b=some (.tup xs)->b≠p:=fun b xs e z=>by subst z;rw[h]at e;cases e;exact hu
 have nf:∀ b o x,H b=some (.frz o x)->b≠p:=fun b o x e z=>by subst z;rw[h]at e;cases e;exact hu
 have no:∀ b x,H b=some (.own x)->b≠p:=fun b x e z=>by subst z;rw[h]at e;cases e;exact hu
 have nb:∀ b x,H b=some (.tbl x)->b≠p:=fun b x e z=>by subst z;rw[h]at e;cases e;exact hu
 have nn:∀ b,H b=none->b≠p:=fun b e z=>by subst z;rw[h]at e;cases e
 obtain⟨o,ho⟩:∃ o,s.heap.get? p=some o:=by
  have:=I.hok p u h
  have l:=this.lt
  cases q:s.heap.get? p with
  | some o=>exact⟨o,rfl⟩
  | none=>
    cases u with
    | lst xs=>obtain⟨_,_,_,_,e⟩:=this;rw[q]at e;cases e
    | dK kvs=>obtain⟨_,_,_,_,ob,_,_,e,_⟩:=this;rw[q]at e;cases e
    | dT kvs=>obtain⟨_,_,_,_,ob,_,_,e,_⟩:=this;rw[q]at e;cases e
    | _=>exact hu.elim
 have st:∀ a x,cT X.prog X.w H s.heap a x->cT X.prog X.w (upd H p (.frz o u)) s.heap a x:=fun a x k=>
  k.stay (fun _ _ _ e=>e) (fun b e=>by rw[aH (no b _ e)];exact e) fun b xs e=>by rw[aH (nt b _ e)];exact e
 refine⟨o,{I with base:=?_,free:=?_,freeC:=?_,pin:=?_,hok:=?_}⟩
 ·exact⟨I.base.keep,I.base.slot,fun b ob q n hx=>by
    have:=I.base.free b ob q n hx
    rw[aH (nn b this)];exact this,I.base.there,fun b xs e=>by
    have:=I.base.tups b xs e
    rw[aH (nt b _ this)];exact this,fun b ob x e=>by
    have:=I.base.frzs b ob x e
    rw[aH (nf b _ _ this)];exact this,fun b ps e=>by
    obtain⟨m,e2⟩:=I.base.tbls b ps e
    exact⟨m,by rw[aH (nb b _ e2)];exact e2⟩⟩
 ·rw[aH (nn _ I.free)];exact I.free
 ·intro x c e;rw[aH (nn _ (I.freeC x c e))];exact I.freeC x c e
 ·intro q hq
  obtain⟨h1,h2,h3⟩:=I.pin q hq
  exact⟨h1,by rw[aH (nn _ h2)];exact h2,h3⟩
 ·intro a x e
  by_cases ha:a=p
  ·subst ha
   rw[aT]at e;cases e
   exact⟨ho,st a u (I.hok a u h)⟩
  ·rw[aH ha]at e
   exact st a x (I.hok a x e)
noncomputable def tFz(t:TE):TE:=fun σ H Q=>t σ H fun v H1=>Q v H1\/∃ p u,v=.ref p/\H1 p=some u/\Fz u/\∀ o,Q v (upd H1 p (.frz o u))
theorem cB6{X:Cx}{e:Expr}{t:TE}(h:PE X e t):PE X e (tFz t):=fun pins s σ H Q I q=>
 thn (h pins s σ H _ I q) fun u s1 ⟨v,H1,I1,r1,q1⟩=>by
  rcases q1 with q1 | ⟨p,x,e1,e2,e3,q1⟩
  ·exact⟨v,H1,I1,r1,q1⟩
  ·obtain⟨o,I2⟩:=bH9 I1 e2 e3
   exact⟨v,_,I2,r1,q1 o⟩
theorem aN2{H:Hp}{d:D}{p:Addr}(h:cW H d p):∃ u,H p=some u/\Fz u/\∀ o H',Ext H H'->H' p=some (.frz o u)->Rp H' d (.ref p):=by
 unfold cW at h
 split at h
 ·obtain⟨xs,h1,h2⟩:=h
  exact⟨_,h1,True.intro,fun o H' x e=>.lst e (h2.mono x)⟩
 ·obtain⟨u,ws,h1,h2,h3⟩:=h
  refine⟨u,h1,?_,fun o H' x e=>.dic e h2 (h3.mono x)⟩
  cases u with
  | dK _=>exact True.intro
  | dT _=>exact True.intro
  | _=>exact h2.elim
 ·exact h.elim
theorem aN3{H:Hp}{p:Addr}{u:HO}{o:Obj}(h:H p=some u)(hu:Fz u):Ext H (upd H p (.frz o u)):=
 ⟨fun b xs e=>by rw[aH (fun z=>by subst z;rw[h]at e;cases e;exact hu)];exact e,fun b ob x e=>by rw[aH (fun z=>by subst z;rw[h]at e;cases e;exact hu)];exact e⟩
noncomputable def cE5(σ:Sg):Res->Option (D×Sg)
 | .val d=>some (d,σ)
 | .own d=>some (d,σ)
 | .slot i=>match σ[i]? with
   | some (some s)=>if s.m=.own then some (s.d,σ.set i (some ⟨.val,s.d⟩))else if s.m=.val then some (s.d,σ)else none
   | _=>none
noncomputable def dFz(r:DE):DE:=fun σ=>(r σ).bind fun x=>(cE5 x.2 x.1).bind fun y=>some (.val y.1,y.2)
theorem bF{α:Type}{l:List α}{i j:Nat}{x y:α}(h:(l.set i x)[j]? = some y):(j=i/\y=x/\i < l.length)\/(j≠i/\l[j]? = some y):=by
 rw[List.getElem?_set]at h
 split at h
 ·rename_i e
  split at h
  ·cases h;exact .inl ⟨e.symm,rfl,by assumption⟩
  ·cases h
 ·rename_i e;exact .inr ⟨fun z=>e z.symm,h⟩
theorem cS{X:Cx}{e:Expr}{r:DE}(h:GE X e r):GE X e (dFz r):=.mk fun Γ=>peW (cB6 (h.to Γ)) fun σV H Q ⟨σ,ok,res,σ',e,k⟩=>by
 obtain⟨⟨x,σ1⟩,e1,e⟩:=aC e
 obtain⟨⟨d,σ2⟩,e2,e⟩:=aC e
 cases e
 refine⟨σ,ok,x,σ1,e1,fun v H1 ok1 r1 st1 f1=>?_⟩
 dsimp only at e2
 cases x with
 | val d'=>cases e2;exact .inl (k v H1 ok1 r1 st1 fF)
 | own d'=>
   cases e2
   obtain⟨p,rfl,h1,h2,h3⟩:=r1
   obtain⟨u,q1,q2,q3⟩:=aN2 h1
   have hn:H p=none:=f1 _ p rfl rfl
   refine .inr ⟨p,u,rfl,q1,q2,fun o=>?_⟩
   have x:=aN3 (o:=o) q1 q2
   refine k _ _ ⟨fun i s e=>?_,ok1.dis,ok1.own,ok1.par,fun a ob e n=>?_,fun a e=>?_,ok1.len⟩ (q3 o _ x aT) ⟨fun a ob e n=>?_,fun a e=>?_,st1.mu,st1.nv,st1.kp,st1.fix,st1.lt⟩ fF
   ·obtain⟨w,ew,rw'⟩:=ok1.rel i s e
    refine⟨w,ew,rw'.mono x fun q ob eq m e2=>?_⟩
    rw[aH (fun z=>h2 ⟨i,s,e,m,by rw[ew,eq,z]⟩)];exact e2
   ·rw[aH (fun z=>by subst z;rw[h3]at e;cases e)];exact ok1.keep a ob e n
   ·by_cases z:a=p
    ·subst z;rw[aT]at e;cases e
    ·rw[aH z]at e;exact ok1.dom a e
   ·rw[aH (fun z=>by subst z;rw[hn]at e;cases e)];exact st1.fr a ob e n
   ·by_cases z:a=p
    ·subst z;rw[aT]at e;cases e
    ·rw[aH z]at e;exact st1.dom a e
 | slot i=>
   obtain⟨r1,s,hs⟩:=r1
   have e2':(match σ1[i]? with | some (some s)=>if s.m=.own then some (s.d,σ1.set i (some ⟨.val,s.d⟩))else if s.m=.val then some (s.d,σ1)else none | _=>none)=some (d,σ2):=e2
   rw[hs]at e2'
   dsimp only at e2'
   obtain⟨w,ew,rw'⟩:=ok1.rel i s hs
   rw[r1]at ew;cases ew
   split at e2'
   ·rename_i hm
    cases e2'
    obtain⟨m,d⟩:=s
    cases hm
    obtain⟨p,rfl,h1⟩:=(cP (s:=⟨.own,d⟩) (fun z=>nomatch z)).mp rw'
    obtain⟨u,q1,q2,q3⟩:=aN2 h1
    refine .inr ⟨p,u,rfl,q1,q2,fun o=>?_⟩
    have x:=aN3 (o:=o) q1 q2
    have rp:=q3 o _ x aT
    have il:i < σ1.length:=(List.getElem?_eq_some_iff.mp hs).1
    have pm:kB σ1 σV p:=⟨i,_,hs,rfl,r1⟩
    have sub:∀ (j:Nat) t,(σ1.set i (some ⟨.val,d⟩))[j]? = some (some t)->t.m≠.val->j≠i/\σ1[j]? = some (some t):=fun j t ej hm=>by
     rcases bF ej with⟨_,z,_⟩ | z
     ·cases z;exact absurd rfl hm
     ·exact z
    have mtv:∀ t:Sl,t.m.mt=true->t.m≠.val:=fun t h z=>by rw[z]at h;cases h
    refine k _ _ ⟨fun j t ej=>?_,fun j l t t' q n ej el m m'=>?_,fun j t q ej m=>?_,fun j t q ej m=>?_,fun a ob e n=>?_,fun a e=>?_,?_⟩ rp
     ⟨fun a ob e n=>?_,fun a e=>?_,fun a ⟨j,t,ej,m,ea⟩=>?_,fun a ⟨j,t,ej,m,ea⟩=>?_,fun j t ej=>?_,fun j t ej m=>?_,fun j t ej m=>st1.lt j t (sub j t ej (by rw[m];exact fun z=>nomatch z)).2 m⟩ fF
    ·rcases bF ej with⟨z,z2,_⟩ | ⟨z,z2⟩
     ·cases z2;rw[z];exact⟨_,r1,rp⟩
     ·obtain⟨w,ew,rw2⟩:=ok1.rel j t z2
      refine⟨w,ew,rw2.mono x fun q ob eq m e2=>?_⟩
      rw[aH (fun y=>ok1.dis i j _ t p (Ne.symm z) hs z2 rfl m r1 (by rw[ew,eq,y]))];exact e2
    ·exact ok1.dis j l t t' q n (sub j t ej (mtv t m)).2 (sub l t' el m').2 m m'
    ·exact ok1.own j t q (sub j t ej (by rw[m];exact fun z=>nomatch z)).2 m
    ·exact ok1.par j t q (sub j t ej (by rw[m];exact fun z=>nomatch z)).2 m
    ·have hp:=ok1.own i _ p hs rfl r1
     rw[aH (fun z=>by subst z;rw[hp]at e;cases e)];exact ok1.keep a ob e n
    ·by_cases z:a=p
     ·subst z;rw[aT]at e;cases e
     ·rw[aH z]at e;exact ok1.dom a e
    ·rw[List.length_set];exact ok1.len
    ·by_cases z:a=p
     ·subst z
      rcases st1.mu a pm with y | y
      ·exact absurd y n
      ·rw[e]at y;cases y
     ·rw[aH z];exact st1.fr a ob e n
    ·by_cases z:a=p
     ·subst z;rw[aT]at e;cases e
     ·rw[aH z]at e;exact st1.dom a e
    ·exact st1.mu a ⟨j,t,(sub j t ej (mtv t m)).2,m,ea⟩
    ·exact st1.nv a ⟨j,t,(sub j t ej m).2,m,ea⟩
    ·obtain⟨t',et⟩:=st1.kp j t ej
     by_cases z:j=i
     ·subst z;exact⟨_,by rw[List.getElem?_set_self il]⟩
     ·exact⟨t',by rw[List.getElem?_set_ne (Ne.symm z)];exact et⟩
    ·obtain⟨t',et,h⟩:=st1.fix j t ej m
     refine⟨t',?_,h⟩
     rw[List.getElem?_set_ne (fun z=>?_)]
     ·exact et
     ·subst z
      rw[hs]at et
      cases et
      rcases m with m | m
      ·have:=h.1;rw[m]at this;cases this
      ·have:=h.1;rw[m]at this;cases this
   ·split at e2'
    ·rename_i hm
     cases e2'
     obtain⟨m,d⟩:=s
     cases hm
     exact .inl (k v H1 ok1 rw' st1 fF)
    ·cases e2'
end Dv
namespace Dv
open PySem L2
noncomputable def aW:DA:=fun σ=>some ([],σ)
noncomputable def aD(r:DE)(rs:DA):DA:=fun σ=>(r σ).bind fun x=>(rs x.2).bind fun y=>some (x.1::y.1,y.2)
noncomputable def rds(σ:Sg):List Res->Option (List D)
 | []=>some []
 | r::rs=>(rd σ r).bind fun d=>(rds σ rs).bind fun ds=>some (d::ds)
noncomputable def vals:List Res->Option (List D)
 | []=>some []
 | .val d::rs=>(vals rs).bind fun ds=>some (d::ds)
 | _=>none
theorem yV{Γ:Gm}{H:Hp}{σ:Sg}{σV:St}(ok:StOk Γ H σ σV):∀ {rs:List Res} {vs:List V} {ds:List D},ResOks Γ H σ σV rs vs->rds σ rs=some ds->Vws H ds vs
 | _,_,_,.nil,e=>by cases e;exact .nil
 | _,_,_,.cons h t _,e=>by
   obtain⟨d,e1,e⟩:=aC e
   obtain⟨ds,e2,e⟩:=aC e
   cases e
   exact .cons (h.vw ok e1) (yV ok t e2)
theorem lN{Γ:Gm}{H:Hp}{σ:Sg}{σV:St}:∀ {rs:List Res} {vs:List V} {ds:List D},ResOks Γ H σ σV rs vs->vals rs=some ds->Rps H ds vs
 | _,_,_,.nil,e=>by cases e;exact .nil
 | .val d::_,_,_,.cons h t _,e=>by
   obtain⟨ds,e2,e⟩:=aC e
   cases e
   exact .cons h (lN t e2)
 | .own d::_,_,_,.cons h t _,e=>by cases e
 | .slot d::_,_,_,.cons h t _,e=>by cases e
section
variable{X:Cx}{e:Expr}{es:List Expr}{r:DE}{rs:DA}{pos:Pos}
theorem aE:GA X [] aW:=.mk fun Γ=>paW lX fun σV H Q ⟨σ,ok,res,σ',e,k⟩=>by
 cases e;exact k [] H ok .nil .refl (fun j d p e=>by simp at e)
theorem aA(ha:GE X e r)(hr:GA X es rs)(hs:starEach (e::es) X.env=(false,eval e X.env)::starEach es X.env:=by kernel_rfl):GA X (e::es) (aD r rs):=.mk fun Γ=>paW (dI (ha.to Γ) (hr.to Γ) hs) fun σV H Q ⟨σ,ok,res,σ',e,k⟩=>by
 obtain⟨⟨x,σ1⟩,e1,e⟩:=aC e
 obtain⟨⟨ys,σ2⟩,e2,e⟩:=aC e
 cases e
 refine⟨σ,ok,x,σ1,e1,fun v H1 ok1 r1 st1 f1=>⟨σ1,ok1,ys,_,e2,fun vs H2 ok2 r2 st2 f2=>?_⟩⟩
 refine k (v::vs) H2 ok2 (.cons (r1.step ok1 st2) r2 fun d p e3 e4 j d' e5 e6=>?_) (st1.trans st2) fun j d p e3 e4=>?_
 ·subst e3 e4
  obtain⟨q,eq,ow,_⟩:=r1
  cases eq
  obtain⟨o,ho,_⟩:=ow.obj
  have:=f2 j d' p e5 e6
  rw[ho]at this;cases this
 ·cases j with
  | zero=>simp at e3 e4;subst e3 e4;exact f1 d p rfl rfl
  | succ j=>exact st1.dom p (f2 j d p (by simpa using e3) (by simpa using e4))
noncomputable def dCB(f:FN)(ra:DA):DE:=fun σ=>(ra σ).bind fun x=>(rds x.2 x.1).bind fun ds=>(f ds).bind fun r=>some (r,x.2)
theorem cC{rr:List V->Hp->VK->Prop}{f:FN}{ra:DA}(hp:aY1 rr f)(h:∀ Γ,PE X e (tCB rr (dTA Γ ra))):GE X e (dCB f ra):=.mk fun Γ=>peW (h Γ) fun σV H Q ⟨σ,ok,res,σ',e,k⟩=>by
 obtain⟨⟨x,σ1⟩,e1,e⟩:=aC e
 obtain⟨ds,e2,e⟩:=aC e
 obtain⟨r,e3,e⟩:=aC e
 cases e
 refine⟨σ,ok,x,_,e1,fun vs H1 ok1 r1 st1 f1=>?_⟩
 refine hp H1 ds vs Q _ (yV ok1 r1 e2) e3 fun v H' sm nw=>?_
 exact k v H' (ok1.same sm) (nw.res ok1) (st1.trans (.same sm)) (nw.frh.back st1)
noncomputable def bM0(ra:DA):DE:=fun σ=>(ra σ).bind fun x=>(vals x.1).bind fun ds=>if ds.length<=sizeLine then some (.val (.tup ds),x.2)else none
noncomputable def yW(ra:DA):DE:=fun σ=>(ra σ).bind fun x=>(vals x.1).bind fun ds=>if ds.length<=sizeLine then some (.own (.lst ds),x.2)else none
theorem aN4{x1}(h:GA X es rs):GE X (.Tuple es x1 pos) (bM0 rs):=.mk fun Γ=>peW (bQ7 (h.to Γ)) fun σV H Q ⟨σ,ok,res,σ',e,k⟩=>by
 obtain⟨⟨x,σ1⟩,e1,e⟩:=aC e
 obtain⟨ds,e2,e⟩:=aC e
 dsimp only at e
 split at e
 ·rename_i hl
  cases e
  refine⟨σ,ok,x,_,e1,fun vs H1 ok1 r1 st1 f1=>?_⟩
  have rp:=lN r1 e2
  refine⟨by rw[← rp.length];exact hl,fun p hp=>?_⟩
  have sm:Same H1 (upd H1 p (.tup vs)):=bS hp
  exact k _ _ (ok1.same sm) (.tup aT (rp.mono (.same sm))) (st1.trans (.same sm)) fF
 ·cases e
theorem gX(h:GA X es rs):GE X (.List es pos) (yW rs):=.mk fun Γ=>peW (bQ8 (h.to Γ)) fun σV H Q ⟨σ,ok,res,σ',e,k⟩=>by
 obtain⟨⟨x,σ1⟩,e1,e⟩:=aC e
 obtain⟨ds,e2,e⟩:=aC e
 dsimp only at e
 split at e
 ·rename_i hl
  cases e
  refine⟨σ,ok,x,_,e1,fun vs H1 ok1 r1 st1 f1=>?_⟩
  have rp:=lN r1 e2
  refine⟨by rw[← rp.length];exact hl,fun p hp=>?_⟩
  have sm:Same H1 (upd H1 p (.lst vs)):=bS hp
  have nw:aH5 H1 (upd H1 p (.lst vs)) (.own (.lst ds)) (.ref p):=⟨p,rfl,hp,vs,aT,rp.mono (.same sm)⟩
  exact k _ _ (ok1.same sm) (nw.res ok1) (st1.trans (.same sm)) (nw.frh.back st1)
 ·cases e
end
section
variable{Γ:Gm}{H:Hp}{σ:Sg}{σV:St}{i:Nat}{s:Sl}{p:Addr}{o':HO}{d':D}
theorem StOk.ownAt(ok:StOk Γ H σ σV)(hs:σ[i]? = some (some s))(hm:s.m≠.val):∃ p,σV[i]? = some (some (.ref p))/\cW H s.d p:=by
 obtain⟨v,e,r⟩:=ok.rel i s hs
 obtain⟨p,rfl,r'⟩:=(cP hm).mp r
 exact⟨p,e,r'⟩
theorem fX{m:Md}(h:m.mt=true):m≠.val:=fun z=>by rw[z]at h;cases h
theorem cW.ext{d:D}(h:cW H d p):Ext H (upd H p o'):=by
 obtain⟨o,e,n1,n2⟩:=h.obj
 exact⟨fun b xs q=>by rw[aH (fun z=>by subst z;rw[e]at q;cases q;exact n1 _ rfl)];exact q,fun b ob x q=>by rw[aH (fun z=>by subst z;rw[e]at q;cases q;exact n2 _ _ rfl)];exact q⟩
theorem StOk.write(ok:StOk Γ H σ σV)(hs:σ[i]? = some (some s))(hm:s.m.mt=true)(hv:σV[i]? = some (some (.ref p)))(ow:cW (upd H p o') d' p) :
  StOk Γ (upd H p o') (σ.set i (some ⟨s.m,d'⟩)) σV/\Step σ σV H (σ.set i (some ⟨s.m,d'⟩)) σV (upd H p o'):=by
 obtain⟨p',e',ow0⟩:=ok.ownAt hs (fX hm)
 rw[hv]at e';cases e'
 have x:Ext H (upd H p o'):=ow0.ext
 have il:i < σ.length:=(List.getElem?_eq_some_iff.mp hs).1
 have back:∀ (j:Nat) t,(σ.set i (some ⟨s.m,d'⟩))[j]? = some (some t)->∃ t',σ[j]? = some (some t')/\t'.m=t.m:=fun j t ej=>by
  rcases bF ej with⟨z,z2,_⟩ | ⟨z,z2⟩
  ·cases z2;subst z;exact⟨s,hs,rfl⟩
  ·exact⟨t,z2,rfl⟩
 refine⟨⟨fun j t ej=>?_,fun j l t t' q n ej el m m'=>?_,fun j t q ej m=>?_,fun j t q ej m=>?_,fun a ob e n=>?_,fun a e=>?_,by rw[List.length_set];exact ok.len⟩,
  ⟨fun a ob e n=>?_,fun a e=>?_,fun a ⟨j,t,ej,m,ea⟩=>?_,fun a ⟨j,t,ej,m,ea⟩=>?_,fun j t ej=>?_,fun j t ej m=>?_,fun j t ej m=>?_⟩⟩
 ·rcases bF ej with⟨z,z2,_⟩ | ⟨z,z2⟩
  ·cases z2;subst z;exact⟨_,hv,(cP (s:=⟨s.m,d'⟩) (fX hm)).mpr ⟨p,rfl,ow⟩⟩
  ·obtain⟨w,ew,rw2⟩:=ok.rel j t z2
   refine⟨w,ew,rw2.mono x fun q ob eq m e2=>?_⟩
   rw[aH (fun y=>ok.dis i j _ t p (Ne.symm z) hs z2 hm m hv (by rw[ew,eq,y]))];exact e2
 ·obtain⟨t1,h1,m1⟩:=back j t ej
  obtain⟨t2,h2,m2⟩:=back l t' el
  exact ok.dis j l t1 t2 q n h1 h2 (by rw[m1];exact m) (by rw[m2];exact m')
 ·obtain⟨t1,h1,m1⟩:=back j t ej
  exact ok.own j t1 q h1 (m1.trans m)
 ·obtain⟨t1,h1,m1⟩:=back j t ej
  exact ok.par j t1 q h1 (m1.trans m)
 ·have:a≠p:=fun z=>by
   subst z
   cases hq:s.m with
   | own=>rw[ok.own i s a hs hq hv]at e;cases e
   | par=>exact n (ok.par i s a hs hq hv)
   | val=>rw[hq]at hm;cases hm
   | lent=>rw[hq]at hm;cases hm
  rw[aH this];exact ok.keep a ob e n
 ·by_cases z:a=p
  ·subst z;rw[aT]at e;cases e
  ·rw[aH z]at e;exact ok.dom a e
 ·rw[aH (fun z=>n ⟨i,s,hs,hm,by rw[z];exact hv⟩)];exact e
 ·by_cases z:a=p
  ·subst z;rw[aT]at e;cases e
  ·rw[aH z]at e;exact e
 ·obtain⟨t1,h1,m1⟩:=back j t ej
  exact .inl ⟨j,t1,h1,by rw[m1];exact m,ea⟩
 ·obtain⟨t1,h1,m1⟩:=back j t ej
  exact .inl ⟨j,t1,h1,by rw[m1];exact m,ea⟩
 ·by_cases z:j=i
  ·subst z;exact⟨_,by rw[List.getElem?_set_self il]⟩
  ·exact⟨t,by rw[List.getElem?_set_ne (Ne.symm z)];exact ej⟩
 ·by_cases z:j=i
  ·subst z
   rw[hs]at ej;cases ej
   exact⟨⟨s.m,d'⟩,by rw[List.getElem?_set_self il],rfl,fun q=>(by rw[q]at hm;cases hm),rfl⟩
  ·exact⟨t,by rw[List.getElem?_set_ne (Ne.symm z)];exact ej,rfl,fun _=>rfl,rfl⟩
 ·obtain⟨t1,h1,m1⟩:=back j t ej
  exact⟨t1,h1,m1.trans m⟩
end
noncomputable abbrev FM:=D->List D->Option (D×D)
noncomputable def cB7(r:V->List V->Hp->VK->Prop)(f:FM):Prop:=∀ H d p ds vs Q d' e,cW H d p->Rps H ds vs->f d ds=some (d',e)->(∀ o' v,cW (upd H p o') d' p->Rp (upd H p o') e v->Q v (upd H p o'))->r (.ref p) vs H Q
noncomputable def bC8(f:FM)(i:Nat)(ds:List D)(σ:Sg):Option (Res×Sg):=match σ[i]? with
 | some (some s)=>if s.m.mt=true then(f s.d ds).bind fun y=>some (.val y.2,σ.set i (some ⟨s.m,y.1⟩))else none
 | _=>none
noncomputable def tyD(T:String):D->Bool
 | .lst _=>T=="list"
 | .dic _ _=>T=="dict"
 | _=>false
noncomputable def aB7(T:String)(i:Nat)(σ:Sg):Bool:=match σ[i]? with
 | some (some s)=>decide (s.m≠.val)&&tyD T s.d
 | _=>false
noncomputable def sC(T:String)(i:Nat)(f:FM)(ra:DA):DE:=fun σ=>if aB7 T i σ=true then(ra σ).bind fun x=>(vals x.1).bind fun ds=>bC8 f i ds x.2 else none
theorem cB8{K:PySem.W.Frag}{T:String}{H:Hp}{d:D}{p:Addr}(h:cW H d p)(e:tyD T d=true):tyV K T (.ref p) H:=by
 unfold cW at h
 split at h
 ·obtain⟨xs,h1,_⟩:=h
  exact .inl ⟨by simpa[tyD]using e,xs,SqL.of h1⟩
 ·obtain⟨u,ws,h1,h2,_⟩:=h
  refine .inr (.inr (.inl ⟨by simpa[tyD]using e,?_⟩))
  cases u with
  | dK kvs=>exact .inl ⟨kvs,h1⟩
  | dT kvs=>exact .inr ⟨kvs,h1⟩
  | _=>exact h2.elim
 ·exact h.elim
theorem lO{f:FM}{i:Nat}{ds:List D}{σ σ':Sg}{res:Res}(h:bC8 f i ds σ=some (res,σ')):∃ s d' e,σ[i]? = some (some s)/\s.m.mt=true/\f s.d ds=some (d',e)/\res=.val e/\σ'=σ.set i (some ⟨s.m,d'⟩):=by
 unfold bC8 at h
 split at h
 ·rename_i s hs
  split at h
  ·rename_i hm
   obtain⟨⟨d',e⟩,h1,h2⟩:=aC h
   cases h2
   exact⟨s,d',e,hs,hm,h1,rfl,rfl⟩
  ·cases h
 ·cases h
theorem aB8{T:String}{i:Nat}{σ:Sg}(h:aB7 T i σ=true):∃ s,σ[i]? = some (some s)/\s.m≠.val/\tyD T s.d=true:=by
 unfold aB7 at h
 split at h
 ·rename_i s hs
  rw[Bool.and_eq_true,decide_eq_true_eq]at h
  exact⟨s,hs,h.1,h.2⟩
 ·cases h
section
variable{X:Cx}{e:Expr}{ra:DA}{K:PySem.W.Frag}{T:String}{r:V->List V->Hp->VK->Prop}{f:FM}{i:Nat}
theorem qP(hp:cB7 r f)(h:∀ Γ,PE X e (tBM K T r (bO7 i) (dTA Γ ra))):GE X e (sC T i f ra):=.mk fun Γ=>peW (h Γ) fun σV H Q ⟨σ,ok,res,σ',e,k⟩=>by
 unfold sC at e
 split at e
 ·rename_i hn
  obtain⟨⟨x,σ1⟩,e1,e⟩:=aC e
  obtain⟨ds,e2,e⟩:=aC e
  obtain⟨s,d',y,hs,hm,e3,rfl,rfl⟩:=lO e
  obtain⟨s0,hs0,hm0,ht0⟩:=aB8 hn
  obtain⟨p,ep,ow⟩:=ok.ownAt hs0 hm0
  refine⟨_,ep,cB8 ow ht0,σ,ok,x,σ1,e1,fun vs H1 ok1 r1 st1 f1=>?_⟩
  obtain⟨p',ep',ow1⟩:=ok1.ownAt hs (fX hm)
  rw[ep]at ep';cases ep'
  refine hp H1 s.d p ds vs Q d' y ow1 (lN r1 e2) e3 fun o' v ow' rp=>?_
  obtain⟨ok2,st2⟩:=ok1.write hs hm ep ow'
  exact k v _ ok2 rp (st1.trans st2) fF
 ·cases e
end
end Dv
namespace Dv
open PySem L2
inductive Out where
 | nx (σ:Sg) | rt (r:Res) (σ:Sg) | bk (σ:Sg) | ct (σ:Sg) | ex (c:Str) (f:Option (Str×D)) (σ:Sg)
noncomputable abbrev DS:=Sg->Option Out
structure Ex where
 ok:Hp->Str->Option (Str×D)->Value->Option Addr->Prop
 to:St->XK
noncomputable def Ex.no:Ex:=⟨fun _ _ _ _ _=>False,fun _ _ _ _=>False⟩
noncomputable def yX(Γ:Gm)(E:Ex)(σ:Sg)(σV:St)(H:Hp)(o:Out)(D:Ends):Prop:=match o with
 | .nx σ'=>∀ σV' H',StOk Γ H' σ' σV'->Step σ σV H σ' σV' H'->D.nx σV' H'
 | .rt r σ'=>∀ v σV' H',StOk Γ H' σ' σV'->iV Γ H' σ' σV' r v->Step σ σV H σ' σV' H'->D.rt v H'
 | .bk σ'=>∀ σV' H',StOk Γ H' σ' σV'->Step σ σV H σ' σV' H'->D.bk σV' H'
 | .ct σ'=>∀ σV' H',StOk Γ H' σ' σV'->Step σ σV H σ' σV' H'->D.ct σV' H'
 | .ex c f σ'=>∀ x d σV' H',StOk Γ H' σ' σV'->E.ok H' c f x d->Step σ σV H σ' σV' H'->E.to σV' x d H'
noncomputable def dTS(Γ:Gm)(E:Ex)(r:DS):TS:=fun D σV H=>∃ σ,StOk Γ H σ σV/\∃ o,r σ=some o/\yX Γ E σ σV H o D
structure GS(E:Ex)(X:Cx)(s:Stmt)(r:DS):Prop where
 to:∀ Γ,PS X s (dTS Γ E r)
structure GSs(E:Ex)(X:Cx)(s:List Stmt)(r:DS):Prop where
 to:∀ Γ,PSs X s (dTS Γ E r)
theorem yX.after{Γ:Gm}{E:Ex}{σ σ1:Sg}{σV σV1:St}{H H1:Hp}{o:Out}{D:Ends}(h:yX Γ E σ σV H o D)(st:Step σ σV H σ1 σV1 H1):yX Γ E σ1 σV1 H1 o D:=by
 cases o with
 | nx σ'=>exact fun σV' H' ok s=>h σV' H' ok (st.trans s)
 | rt r σ'=>exact fun v σV' H' ok q s=>h v σV' H' ok q (st.trans s)
 | bk σ'=>exact fun σV' H' ok s=>h σV' H' ok (st.trans s)
 | ct σ'=>exact fun σV' H' ok s=>h σV' H' ok (st.trans s)
 | ex c f σ'=>exact fun x d σV' H' ok q s=>h x d σV' H' ok q (st.trans s)
theorem yX.ends{Γ:Gm}{E:Ex}{σ:Sg}{σV:St}{H:Hp}{o:Out}{D D':Ends}(h:yX Γ E σ σV H o D)(h1:∀ σ',o≠.nx σ')(h2:D'.rt=D.rt)(h3:D'.bk=D.bk)(h4:D'.ct=D.ct):yX Γ E σ σV H o D':=by
 cases o with
 | nx σ'=>exact absurd rfl (h1 σ')
 | rt r σ'=>show ∀ _,_;rw[h2];exact h
 | bk σ'=>show ∀ _,_;rw[h3];exact h
 | ct σ'=>show ∀ _,_;rw[h4];exact h
 | ex c f σ'=>exact h
noncomputable def iL:DS:=fun σ=>some (.nx σ)
noncomputable def cL(a b:DS):DS:=fun σ=>(a σ).bind fun o=>match o with
 | .nx σ1=>b σ1
 | o=>some o
noncomputable def aH7(r:DE):DS:=fun σ=>(r σ).bind fun x=>some (.nx x.2)
noncomputable def iR(r:DE):DS:=fun σ=>(r σ).bind fun x=>some (.rt x.1 x.2)
noncomputable def cB9:DS:=fun σ=>some (.rt (.val .non) σ)
noncomputable def rM(c:DT)(a b:DS):DS:=fun σ=>(c σ).bind fun x=>if x.1=true then a x.2 else b x.2
section
variable{X:Cx}{E:Ex}{st:Stmt}{eE:List Stmt}{a b:DS}{pos:Pos}{e:Expr}{r:DE}
theorem dJ:GSs E X [] iL:=.mk fun Γ=>cE4 bE9 fun D σV H ⟨σ,ok,o,e,k⟩=>by
 cases e;exact k σV H ok .refl
theorem aQ(h:GS E X st a):GSs E X [st] a:=.mk fun Γ=>bF0 (h.to Γ)
theorem aY4{Γ:Gm}{E:Ex}{D:Ends}{σV:St}{H:Hp}(h:dTS Γ E (cL a b) D σV H):cD5 (dTS Γ E a) (dTS Γ E b) D σV H:=by
 obtain⟨σ,ok,o,e,k⟩:=h
 obtain⟨o1,e1,e⟩:=aC e
 refine⟨σ,ok,o1,e1,?_⟩
 cases o1 with
 | nx σ1=>exact fun σV1 H1 ok1 st1=>⟨σ1,ok1,o,e,k.after st1⟩
 | rt r σ'=>cases e;exact k
 | bk σ'=>cases e;exact k
 | ct σ'=>cases e;exact k
 | ex c f σ'=>cases e;exact k
theorem aG(h1:GS E X st a)(h2:GSs E X eE b):GSs E X (st::eE) (cL a b):=.mk fun Γ=>cE4 (aV3 (h1.to Γ) (h2.to Γ)) fun _ _ _=>aY4
theorem yY(he:GE X e r)(hs:swapsWith e none pos.line X.env=pure false:=by rfl):GS E X (.Expr e pos) (aH7 r):=.mk fun Γ=>psW (bF1 (he.to Γ) hs) fun D σV H ⟨σ,ok,o,e,k⟩=>by
 obtain⟨⟨x,σ1⟩,e1,e⟩:=aC e
 cases e
 exact⟨σ,ok,x,σ1,e1,fun v H1 ok1 r1 st1 _=>k σV H1 ok1 st1⟩
theorem bT(he:GE X e r):GS E X (.Return (some e) pos) (iR r):=.mk fun Γ=>psW (bP7 (he.to Γ)) fun D σV H ⟨σ,ok,o,e,k⟩=>by
 obtain⟨⟨x,σ1⟩,e1,e⟩:=aC e
 cases e
 exact⟨σ,ok,x,σ1,e1,fun v H1 ok1 r1 st1 _=>k v σV H1 ok1 r1 st1⟩
theorem jC{c:Expr}{l m:List Stmt}{t:DT}(hc:GT X c t)(ha:GSs E X l a)(hb:GSs E X m b):GS E X (.If c l m pos) (rM t a b):=.mk fun Γ=>psW (bZ9 (hc.to Γ) (ha.to Γ) (hb.to Γ)) fun D σV H ⟨σ,ok,o,e,k⟩=>by
 obtain⟨⟨x,σ1⟩,e1,e⟩:=aC e
 refine⟨σ,ok,x,σ1,e1,fun H1 ok1 st1=>?_⟩
 dsimp only at e
 split at e
 ·rename_i hx;rw[if_pos hx];exact⟨σ1,ok1,o,e,k.after st1⟩
 ·rename_i hx;rw[if_neg hx];exact⟨σ1,ok1,o,e,k.after st1⟩
end
noncomputable def eR(σ:Sg)(i:Nat):Bool:=match σ[i]? with
 | some none=>true
 | some (some s)=>decide (s.m=.val)||decide (s.m=.own)
 | none=>false
theorem jD{σ:Sg}{i:Nat}(h:eR σ i=true):i < σ.length:=by
 unfold eR at h
 split at h
 ·rename_i e;exact(List.getElem?_eq_some_iff.mp e).1
 ·rename_i e;exact(List.getElem?_eq_some_iff.mp e).1
 ·cases h
theorem aY5{σ:Sg}{i:Nat}{s:Sl}(h:eR σ i=true)(hs:σ[i]? = some (some s)):s.m=.val\/s.m=.own:=by
 unfold eR at h
 rw[hs]at h
 simpa using h
section
variable{Γ:Gm}{H H0:Hp}{σ σ0:Sg}{σV σV0:St}{i:Nat}{d:D}{v:V}
theorem StOk.put(ok:StOk Γ H σ σV)(hp:eR σ i=true)(r:Rp H d v):StOk Γ H (σ.set i (some ⟨.val,d⟩)) (σV.set i (some v)) where
 rel:=fun j t ej=>by
  rcases bF ej with⟨z,z2,_⟩ | ⟨z,z2⟩
  ·cases z2;subst z
   exact⟨v,by rw[List.getElem?_set_self (by rw[← ok.len];exact jD hp)],r⟩
  ·obtain⟨w,ew,rw2⟩:=ok.rel j t z2
   exact⟨w,by rw[List.getElem?_set_ne (Ne.symm z)];exact ew,rw2⟩
 dis:=fun j l t t' q n ej el m m' eq eq'=>by
  rcases bF ej with⟨z,z2,_⟩ | ⟨z,z2⟩
  ·cases z2;cases m
  ·rcases bF el with⟨y,y2,_⟩ | ⟨y,y2⟩
   ·cases y2;exact m' rfl
   ·rw[List.getElem?_set_ne (Ne.symm z)]at eq
    rw[List.getElem?_set_ne (Ne.symm y)]at eq'
    exact ok.dis j l t t' q n z2 y2 m m' eq eq'
 own:=fun j t q ej m eq=>by
  rcases bF ej with⟨z,z2,_⟩ | ⟨z,z2⟩
  ·cases z2;cases m
  ·rw[List.getElem?_set_ne (Ne.symm z)]at eq;exact ok.own j t q z2 m eq
 par:=fun j t q ej m eq=>by
  rcases bF ej with⟨z,z2,_⟩ | ⟨z,z2⟩
  ·cases z2;cases m
  ·rw[List.getElem?_set_ne (Ne.symm z)]at eq;exact ok.par j t q z2 m eq
 keep:=ok.keep
 dom:=ok.dom
 len:=by rw[List.length_set,List.length_set];exact ok.len
theorem Step.put(st:Step σ0 σV0 H0 σ σV H)(hp:eR σ i=true)(m:Md)(hm:m=.val\/m=.own/\∀ p,v=.ref p->H0 p=none):Step σ0 σV0 H0 (σ.set i (some ⟨m,d⟩)) (σV.set i (some v)) H:=by
 have ne_lent:m≠.lent:=by rcases hm with rfl | ⟨rfl,_⟩<;>exact fun z=>nomatch z
 have il:=jD hp
 have fixi:∀ t,σ[i]? = some (some t)->t.m≠.par/\t.m≠.lent:=fun t e=>by
  rcases aY5 hp e with z | z<;>(rw[z];exact⟨(fun y=>by cases y),(fun y=>by cases y)⟩)
 refine⟨st.fr,st.dom,fun a ⟨j,t,ej,mt,ea⟩=>?_,fun a ⟨j,t,ej,nv,ea⟩=>?_,fun j t ej=>?_,fun j t ej mm=>?_,fun j t ej mm=>?_⟩
 ·rcases bF ej with⟨z,z2,_⟩ | ⟨z,z2⟩
  ·cases z2
   subst z
   rcases hm with rfl | ⟨_,hf⟩
   ·cases mt
   ·have:=List.getElem?_eq_some_iff.mp ea
    obtain⟨hl,he⟩:=this
    rw[List.getElem_set_self]at he
    exact .inr (hf a (Option.some.inj he))
  ·rw[List.getElem?_set_ne (Ne.symm z)]at ea
   exact st.mu a ⟨j,t,z2,mt,ea⟩
 ·rcases bF ej with⟨z,z2,_⟩ | ⟨z,z2⟩
  ·cases z2
   subst z
   rcases hm with rfl | ⟨_,hf⟩
   ·exact absurd rfl nv
   ·have:=List.getElem?_eq_some_iff.mp ea
    obtain⟨hl,he⟩:=this
    rw[List.getElem_set_self]at he
    exact .inr (hf a (Option.some.inj he))
  ·rw[List.getElem?_set_ne (Ne.symm z)]at ea
   exact st.nv a ⟨j,t,z2,nv,ea⟩
 ·obtain⟨t',et⟩:=st.kp j t ej
  by_cases z:j=i
  ·subst z;exact⟨_,by rw[List.getElem?_set_self il]⟩
  ·exact⟨t',by rw[List.getElem?_set_ne (Ne.symm z)];exact et⟩
 ·obtain⟨t',et,h1,h2,h3⟩:=st.fix j t ej mm
  have z:j≠i:=fun z=>by
   subst z
   obtain⟨n1,n2⟩:=fixi t' et
   rcases mm with m1 | m1
   ·exact n1 (h1.trans m1)
   ·exact n2 (h1.trans m1)
  exact⟨t',by rw[List.getElem?_set_ne (Ne.symm z)];exact et,h1,h2,by rw[List.getElem?_set_ne (Ne.symm z)];exact h3⟩
 ·rcases bF ej with⟨z,z2,_⟩ | ⟨z,z2⟩
  ·cases z2;exact absurd mm ne_lent
  ·exact st.lt j t z2 mm
theorem StOk.putOwn{p:Addr}(ok:StOk Γ H σ σV)(hp:eR σ i=true)(ow:cW H d p)(hn:¬ aM8 σ σV p)(h0:Γ.H₀ p=none):StOk Γ H (σ.set i (some ⟨.own,d⟩)) (σV.set i (some (.ref p))) where
 rel:=fun j t ej=>by
  rcases bF ej with⟨z,z2,_⟩ | ⟨z,z2⟩
  ·cases z2;subst z
   exact⟨.ref p,by rw[List.getElem?_set_self (by rw[← ok.len];exact jD hp)],p,rfl,ow⟩
  ·obtain⟨w,ew,rw2⟩:=ok.rel j t z2
   exact⟨w,by rw[List.getElem?_set_ne (Ne.symm z)];exact ew,rw2⟩
 dis:=fun j l t t' q n ej el m m' eq eq'=>by
  have il:i < σV.length:=by rw[← ok.len];exact jD hp
  rcases bF ej with⟨z,z2,_⟩ | ⟨z,z2⟩
  ·subst z
   rw[List.getElem?_set_self il]at eq
   have eq:=Option.some.inj (Option.some.inj eq)
   cases eq
   rcases bF el with⟨y,y2,_⟩ | ⟨y,y2⟩
   ·exact n y.symm
   ·rw[List.getElem?_set_ne (Ne.symm y)]at eq'
    exact hn ⟨l,t',y2,m',eq'⟩
  ·rw[List.getElem?_set_ne (Ne.symm z)]at eq
   rcases bF el with⟨y,y2,_⟩ | ⟨y,y2⟩
   ·subst y
    rw[List.getElem?_set_self il]at eq'
    have eq':=Option.some.inj (Option.some.inj eq')
    cases eq'
    exact hn ⟨j,t,z2,fX m,eq⟩
   ·rw[List.getElem?_set_ne (Ne.symm y)]at eq'
    exact ok.dis j l t t' q n z2 y2 m m' eq eq'
 own:=fun j t q ej m eq=>by
  rcases bF ej with⟨z,z2,_⟩ | ⟨z,z2⟩
  ·subst z
   rw[List.getElem?_set_self (by rw[← ok.len];exact jD hp)]at eq
   have eq:=Option.some.inj (Option.some.inj eq)
   cases eq;exact h0
  ·rw[List.getElem?_set_ne (Ne.symm z)]at eq;exact ok.own j t q z2 m eq
 par:=fun j t q ej m eq=>by
  rcases bF ej with⟨z,z2,_⟩ | ⟨z,z2⟩
  ·cases z2;cases m
  ·rw[List.getElem?_set_ne (Ne.symm z)]at eq;exact ok.par j t q z2 m eq
 keep:=ok.keep
 dom:=ok.dom
 len:=by rw[List.length_set,List.length_set];exact ok.len
end
noncomputable def cE6(i:Nat)(r:Res)(σ:Sg):Option Sg:=match r with
 | .val d=>if eR σ i=true then some (σ.set i (some ⟨.val,d⟩))else none
 | .own d=>if eR σ i=true then some (σ.set i (some ⟨.own,d⟩))else none
 | .slot _=>none
noncomputable def fM(i:Nat)(r:DE):DS:=fun σ=>(r σ).bind fun x=>(cE6 i x.1 x.2).bind fun σ1=>some (.nx σ1)
theorem aY6{Γ:Gm}{E:Ex}{i:Nat}{r:DE}{D:Ends}{σV:St}{H:Hp}(h:dTS Γ E (fM i r) D σV H):dTE Γ r σV H (fun x H1=>D.nx (σV.set i (some x)) H1):=by
 obtain⟨σ,ok,o,e,k⟩:=h
 obtain⟨⟨x,σ1⟩,e1,e⟩:=aC e
 obtain⟨σ2,e2,e⟩:=aC e
 cases e
 refine⟨σ,ok,x,σ1,e1,fun v H1 ok1 r1 st1 f1=>?_⟩
 cases x with
 | val d=>
   have e2':(if eR σ1 i=true then some (σ1.set i (some ⟨.val,d⟩))else none)=some σ2:=e2
   split at e2'
   ·rename_i hp;cases e2';exact k _ _ (ok1.put hp r1) (st1.put hp .val (.inl rfl))
   ·cases e2'
 | own d=>
   have e2':(if eR σ1 i=true then some (σ1.set i (some ⟨.own,d⟩))else none)=some σ2:=e2
   split at e2'
   ·rename_i hp
    cases e2'
    obtain⟨p,rfl,q1,q2,q3⟩:=r1
    exact k _ _ (ok1.putOwn hp q1 q2 q3) (st1.put hp .own (.inr ⟨rfl,fun p e=>f1 _ p rfl e⟩))
   ·cases e2'
 | slot j=>cases e2
theorem bT2{X:Cx}{E:Ex}{i:Nat}{st:Stmt}{r:DE}(h:∀ Γ,PS X st (bQ0 (dTE Γ r) (aK4 i))):GS E X st (fM i r):=.mk fun Γ=>psW (h Γ) fun _ _ _ h=>aY6 h
noncomputable def gY(x:Str):List D:=x.cps.toList.map fun c=>.str ⟨#[c]⟩
theorem sD{H:Hp}(x:Str):Rps H (gY x) (dQ x):=by
 unfold gY dQ
 induction x.cps.toList with
 | nil=>exact .nil
 | cons a r ih=>exact .cons (.str _) ih
noncomputable abbrev DG:=D->Sg->Option Sg
noncomputable abbrev DGs:=List D->Sg->Option Sg
noncomputable def bC9(own:List Nat)(g:TG)(gd:DG):Prop:=∀ Γ H σ0 σV0 H0 σ σV d v σ' Q,StOk Γ H σ σV->Step σ0 σV0 H0 σ σV H->Rp H d v->gd d σ=some σ' ->
 (∀ σV',StOk Γ H σ' σV'->Step σ0 σV0 H0 σ' σV' H->σV'.length=σV.length->(∀ i,i∉own->σV'[i]? = σV[i]? /\ σ'[i]? = σ[i]?)->Q σV' H)->g v σV H Q
noncomputable def aY7(own:List Nat)(g:TGs)(gd:DGs):Prop:=∀ Γ H σ0 σV0 H0 σ σV ds vs σ' Q,StOk Γ H σ σV->Step σ0 σV0 H0 σ σV H->Rps H ds vs->gd ds σ=some σ' ->
 (∀ σV',StOk Γ H σ' σV'->Step σ0 σV0 H0 σ' σV' H->σV'.length=σV.length->(∀ i,i∉own->σV'[i]? = σV[i]? /\ σ'[i]? = σ[i]?)->Q σV' H)->g vs σV H Q
noncomputable def dgN(i:Nat):DG:=fun d σ=>if eR σ i=true then some (σ.set i (some ⟨.val,d⟩))else none
noncomputable def yZ:DGs:=fun ds σ=>if ds.isEmpty then some σ else none
noncomputable def gZ(g:DG)(gs:DGs):DGs:=fun ds σ=>match ds with
 | d::r=>(g d σ).bind fun σ1=>gs r σ1
 | []=>none
noncomputable def zA(n:Nat)(gs:DGs):DG:=fun d σ=>match d with
 | .tup l=>if l.length=n then gs l σ else none
 | .str z=>if z.length=n then gs (gY z) σ else none
 | _=>none
theorem bD{own:List Nat}{i:Nat}(h:i∈own):bC9 own (aK4 i) (dgN i):=by
 intro Γ H σ0 σV0 H0 σ σV d v σ' Q ok st r e k
 unfold dgN at e
 split at e
 ·rename_i hp
  cases e
  refine k _ (ok.put hp r) (st.put hp .val (.inl rfl)) (by simp) fun j hj=>?_
  have:i≠j:=fun z=>hj (by rw[← z];exact h)
  exact⟨List.getElem?_set_ne this,List.getElem?_set_ne this⟩
 ·cases e
theorem qQ{own:List Nat}:aY7 own cD7 yZ:=by
 intro Γ H σ0 σV0 H0 σ σV ds vs σ' Q ok st r e k
 unfold yZ at e
 cases r with
 | nil=>cases e;exact⟨rfl,k _ ok st rfl fun _ _=>⟨rfl,rfl⟩⟩
 | cons _ _=>cases e
theorem eJ{own:List Nat}{g:TG}{gd:DG}{gs:TGs}{gds:DGs}(h1:bC9 own g gd)(h2:aY7 own gs gds):aY7 own (bP8 g gs) (gZ gd gds):=by
 intro Γ H σ0 σV0 H0 σ σV ds vs σ' Q ok st r e k
 cases r with
 | nil=>cases e
 | cons a t=>
   obtain⟨σ1,e1,e⟩:=aC e
   refine⟨_,_,rfl,h1 Γ H σ0 σV0 H0 σ σV _ _ σ1 _ ok st a e1 fun σV1 ok1 st1 l1 f1=>?_⟩
   refine h2 Γ H σ0 σV0 H0 σ1 σV1 _ _ σ' _ ok1 st1 t e fun σV2 ok2 st2 l2 f2=>?_
   exact k σV2 ok2 st2 (l2.trans l1) fun i hi=>⟨(f2 i hi).1.trans (f1 i hi).1,(f2 i hi).2.trans (f1 i hi).2⟩
theorem aB9{own:List Nat}{K:PySem.W.Frag}{n:Nat}{gs:TGs}{gds:DGs}(h:aY7 own gs gds):bC9 own (aX4 K n gs) (zA n gds):=by
 intro Γ H σ0 σV0 H0 σ σV d v σ' Q ok st r e k
 cases d with
 | tup l=>
   have e':(if l.length=n then gds l σ else none)=some σ':=e
   split at e'
   ·rename_i hl
    obtain⟨p,xs,rfl,h1,h2⟩:=eG (.inl r)
    exact⟨xs,cN h1,by rw[← h2.length];exact hl,h Γ H σ0 σV0 H0 σ σV l xs σ' Q ok st h2 e' k⟩
   ·cases e'
 | str z=>
   have e':(if z.length=n then gds (gY z) σ else none)=some σ':=e
   split at e'
   ·rename_i hl
    cases r
    exact⟨hl,h Γ H σ0 σV0 H0 σ σV _ _ σ' Q ok st (sD z) e' k⟩
   ·cases e'
 | _=>cases e
noncomputable def bI0(g:DG)(r:DE):DS:=fun σ=>(r σ).bind fun x=>match x.1 with
 | .val d=>(g d x.2).bind fun σ1=>some (.nx σ1)
 | _=>none
theorem aC0{X:Cx}{E:Ex}{own:List Nat}{st:Stmt}{r:DE}{g:TG}{gd:DG}(hg:bC9 own g gd)(h:∀ Γ,PS X st (bQ0 (dTE Γ r) g)):GS E X st (bI0 gd r):=.mk fun Γ=>psW (h Γ) fun D σV H ⟨σ,ok,o,e,k⟩=>by
 obtain⟨⟨x,σ1⟩,e1,e⟩:=aC e
 refine⟨σ,ok,x,σ1,e1,fun v H1 ok1 r1 st1 f1=>?_⟩
 cases x with
 | val d=>
   obtain⟨σ2,e2,e⟩:=aC e
   cases e
   exact hg Γ H1 σ σV H σ1 σV d v σ2 _ ok1 st1 r1 e2 fun σV2 ok2 st2 _ _=>k σV2 H1 ok2 st2
 | own d=>cases e
 | slot d=>cases e
noncomputable def cE7(i j:Nat)(ra:DA):DS:=fun σ=>(ra σ).bind fun x=>(vals x.1).bind fun ds=>match ds with
 | [d,e]=>if eR x.2 i=true/\eR x.2 j=true/\i≠j then some (.nx ((x.2.set i (some ⟨.val,d⟩)).set j (some ⟨.val,e⟩)))else none
 | _=>none
end Dv
namespace Dv
open PySem L2
noncomputable def lend(i:Nat)(σ:Sg):Sg:=match σ[i]? with
 | some (some s)=>if s.m.mt=true then σ.set i (some ⟨.lent,s.d⟩)else σ
 | _=>σ
noncomputable def unl(i:Nat)(σ0 σ:Sg):Sg:=match σ0[i]?,σ[i]? with
 | some (some s0),some (some s)=>if s0.m.mt=true then σ.set i (some ⟨s0.m,s.d⟩)else σ
 | _,_=>σ
noncomputable def lendO(l:Option Nat)(σ:Sg):Sg:=match l with
 | some i=>lend i σ
 | none=>σ
noncomputable def aJ6(l:Option Nat)(σ0 σ:Sg):Sg:=match l with
 | some i=>unl i σ0 σ
 | none=>σ
section
variable{Γ:Gm}{H H1 H2:Hp}{σ σ1 σ2:Sg}{σV σV2:St}{i:Nat}{s:Sl}
theorem qR(hs:σ[i]? = some (some s))(hm:s.m.mt=true):lend i σ=σ.set i (some ⟨.lent,s.d⟩):=by
 unfold lend;rw[hs];simp only[hm,if_true]
theorem zB(h:∀ s,σ[i]? = some (some s)->s.m.mt=false):lend i σ=σ:=by
 unfold lend
 split
 ·rename_i s hs;rw[if_neg (by rw[h s hs];exact Bool.false_ne_true)]
 ·rfl
theorem StOk.lend(ok:StOk Γ H σ σV):StOk Γ H (lend i σ) σV:=by
 by_cases hx:∃ s,σ[i]? = some (some s)/\s.m.mt=true
 ·obtain⟨s,hs,hm⟩:=hx
  rw[qR hs hm]
  obtain⟨p,ep,ow⟩:=ok.ownAt hs (fX hm)
  have back:∀ (j:Nat) t,(σ.set i (some ⟨.lent,s.d⟩))[j]? = some (some t)->(j=i/\t=⟨.lent,s.d⟩)\/(j≠i/\σ[j]? = some (some t)):=fun j t ej=>by
   rcases bF ej with⟨z,z2,_⟩ | z
   ·cases z2;exact .inl ⟨z,rfl⟩
   ·exact .inr z
  refine⟨fun j t ej=>?_,fun j l t t' q n ej el m m' eq eq'=>?_,fun j t q ej m eq=>?_,fun j t q ej m eq=>?_,ok.keep,ok.dom,by rw[List.length_set];exact ok.len⟩
  ·rcases back j t ej with⟨rfl,rfl⟩ | ⟨_,z⟩
   ·exact⟨_,ep,p,rfl,ow⟩
   ·exact ok.rel j t z
  ·rcases back j t ej with⟨rfl,rfl⟩ | ⟨_,z⟩
   ·cases m
   ·rcases back l t' el with⟨rfl,rfl⟩ | ⟨_,y⟩
    ·exact ok.dis j l t s q n z hs m (fX hm) eq eq'
    ·exact ok.dis j l t t' q n z y m m' eq eq'
  ·rcases back j t ej with⟨rfl,rfl⟩ | ⟨_,z⟩
   ·cases m
   ·exact ok.own j t q z m eq
  ·rcases back j t ej with⟨rfl,rfl⟩ | ⟨_,z⟩
   ·cases m
   ·exact ok.par j t q z m eq
 ·rw[zB fun s hs=>by
   cases e:s.m.mt with
   | false=>rfl
   | true=>exact absurd ⟨s,hs,e⟩ hx]
  exact ok
theorem bT3(ok:StOk Γ H1 σ1 σV)(ok2:StOk Γ H2 σ2 σV2)(st:Step (lend i σ1) σV H1 σ2 σV2 H2):StOk Γ H2 (unl i σ1 σ2) σV2/\Step σ1 σV H1 (unl i σ1 σ2) σV2 H2:=by
 by_cases hx:∃ s,σ1[i]? = some (some s)/\s.m.mt=true
 ·obtain⟨s,hs,hm⟩:=hx
  have il:i < σ1.length:=(List.getElem?_eq_some_iff.mp hs).1
  rw[qR hs hm]at st
  have hsl:(σ1.set i (some ⟨.lent,s.d⟩))[i]? = some (some ⟨.lent,s.d⟩):=by rw[List.getElem?_set_self il]
  obtain⟨s2,h2,m2,d2,v2⟩:=st.fix i _ hsl (.inr rfl)
  have m2':s2.m=.lent:=m2
  have il2:i < σ2.length:=(List.getElem?_eq_some_iff.mp h2).1
  have eu:unl i σ1 σ2=σ2.set i (some ⟨s.m,s2.d⟩):=by unfold unl;rw[hs,h2];simp only[hm,if_true]
  rw[eu]
  obtain⟨p,ep,ow⟩:=ok.ownAt hs (fX hm)
  have ep2:σV2[i]? = some (some (.ref p)):=v2.trans ep
  obtain⟨p',e',ow2⟩:=ok2.ownAt h2 (by rw[m2'];exact fun z=>nomatch z)
  rw[ep2]at e';cases e'
  have lold:∀ (j:Nat) t,j≠i->σ2[j]? = some (some t)->t.m=.lent->σV2[j]? ≠ some (some (.ref p)):=fun j t hj ej mj e=>by
   obtain⟨t1,h1,mt1⟩:=st.lt j t ej mj
   rw[List.getElem?_set_ne (Ne.symm hj)]at h1
   have hf:(σ1.set i (some ⟨.lent,s.d⟩))[j]? = some (some t1):=by rw[List.getElem?_set_ne (Ne.symm hj)];exact h1
   obtain⟨_,_,_,_,vj⟩:=st.fix j t1 hf (.inr mt1)
   rw[vj]at e
   exact ok.dis i j s t1 p (Ne.symm hj) hs h1 hm (by rw[mt1];exact fun z=>nomatch z) ep e
  have others:∀ (j:Nat) t,j≠i->σ2[j]? = some (some t)->t.m≠.val->σV2[j]? ≠ some (some (.ref p)):=fun j t hj ej mj e=>by
   by_cases hl:t.m=.lent
   ·exact lold j t hj ej hl e
   ·have hmt:t.m.mt=true:=by
     cases q:t.m with
     | val=>exact absurd q mj
     | own=>rfl
     | par=>rfl
     | lent=>exact absurd q hl
    exact ok2.dis j i t s2 p hj ej h2 hmt (by rw[m2'];exact fun z=>nomatch z) e ep2
  have back:∀ (j:Nat) t,(σ2.set i (some ⟨s.m,s2.d⟩))[j]? = some (some t)->(j=i/\t=⟨s.m,s2.d⟩)\/(j≠i/\σ2[j]? = some (some t)):=fun j t ej=>by
   rcases bF ej with⟨z,z2,_⟩ | z
   ·cases z2;exact .inl ⟨z,rfl⟩
   ·exact .inr z
  have sub:∀ a,kB (σ1.set i (some ⟨.lent,s.d⟩)) σV a->kB σ1 σV a:=fun a ⟨j,t,ej,m,ea⟩=>by
   rcases bF ej with⟨z,z2,_⟩ | ⟨z,z2⟩
   ·cases z2;cases m
   ·exact⟨j,t,z2,m,ea⟩
  have subN:∀ a,aM8 (σ1.set i (some ⟨.lent,s.d⟩)) σV a->aM8 σ1 σV a:=fun a ⟨j,t,ej,m,ea⟩=>by
   rcases bF ej with⟨z,z2,_⟩ | ⟨z,z2⟩
   ·subst z;exact⟨j,s,hs,fX hm,ea⟩
   ·exact⟨j,t,z2,m,ea⟩
  constructor
  ·refine⟨fun j t ej=>?_,fun j l t t' q n ej el m m' eq eq'=>?_,fun j t q ej m eq=>?_,fun j t q ej m eq=>?_,ok2.keep,ok2.dom,by rw[List.length_set];exact ok2.len⟩
   ·rcases back j t ej with⟨rfl,rfl⟩ | ⟨_,z⟩
    ·exact⟨_,ep2,(cP (s:=⟨s.m,s2.d⟩) (fX hm)).mpr ⟨p,rfl,ow2⟩⟩
    ·exact ok2.rel j t z
   ·rcases back j t ej with⟨rfl,rfl⟩ | ⟨zn,z⟩
    ·rw[ep2]at eq
     have eq:=Option.some.inj (Option.some.inj eq)
     cases eq
     rcases back l t' el with⟨rfl,rfl⟩ | ⟨yn,y⟩
     ·exact n rfl
     ·exact others l t' yn y m' eq'
    ·rcases back l t' el with⟨rfl,rfl⟩ | ⟨yn,y⟩
     ·rw[ep2]at eq'
      have eq':=Option.some.inj (Option.some.inj eq')
      cases eq'
      exact others j t zn z (fX m) eq
     ·exact ok2.dis j l t t' q n z y m m' eq eq'
   ·rcases back j t ej with⟨rfl,rfl⟩ | ⟨_,z⟩
    ·rw[ep2]at eq
     have eq:=Option.some.inj (Option.some.inj eq)
     cases eq
     exact ok.own j s p hs m ep
    ·exact ok2.own j t q z m eq
   ·rcases back j t ej with⟨rfl,rfl⟩ | ⟨_,z⟩
    ·rw[ep2]at eq
     have eq:=Option.some.inj (Option.some.inj eq)
     cases eq
     exact ok.par j s p hs m ep
    ·exact ok2.par j t q z m eq
  ·refine⟨fun a o e n=>st.fr a o e fun z=>n (sub a z),st.dom,fun a ⟨j,t,ej,m,ea⟩=>?_,fun a ⟨j,t,ej,m,ea⟩=>?_,fun j t ej=>?_,fun j t ej m=>?_,fun j t ej m=>?_⟩
   ·rcases back j t ej with⟨rfl,rfl⟩ | ⟨_,z⟩
    ·rw[ep2]at ea
     have ea:=Option.some.inj (Option.some.inj ea)
     cases ea
     exact .inl ⟨j,s,hs,hm,ep⟩
    ·rcases st.mu a ⟨j,t,z,m,ea⟩with y | y
     ·exact .inl (sub a y)
     ·exact .inr y
   ·rcases back j t ej with⟨rfl,rfl⟩ | ⟨_,z⟩
    ·rw[ep2]at ea
     have ea:=Option.some.inj (Option.some.inj ea)
     cases ea
     exact .inl ⟨j,s,hs,fX hm,ep⟩
    ·rcases st.nv a ⟨j,t,z,m,ea⟩with y | y
     ·exact .inl (subN a y)
     ·exact .inr y
   ·by_cases z:j=i
    ·subst z;exact⟨_,by rw[List.getElem?_set_self il2]⟩
    ·obtain⟨t',et⟩:=st.kp j t (by rw[List.getElem?_set_ne (Ne.symm z)];exact ej)
     exact⟨t',by rw[List.getElem?_set_ne (Ne.symm z)];exact et⟩
   ·by_cases z:j=i
    ·subst z
     rw[hs]at ej;cases ej
     refine⟨⟨s.m,s2.d⟩,by rw[List.getElem?_set_self il2],rfl,fun q=>?_,v2⟩
     rw[q]at hm;cases hm
    ·obtain⟨t',et,h⟩:=st.fix j t (by rw[List.getElem?_set_ne (Ne.symm z)];exact ej) m
     exact⟨t',by rw[List.getElem?_set_ne (Ne.symm z)];exact et,h⟩
   ·rcases back j t ej with⟨rfl,rfl⟩ | ⟨zn,z⟩
    ·have m':s.m=.lent:=m
     rw[m']at hm;cases hm
    ·obtain⟨t1,h1,m1⟩:=st.lt j t z m
     rw[List.getElem?_set_ne (Ne.symm zn)]at h1
     exact⟨t1,h1,m1⟩
 ·have hno:∀ s,σ1[i]? = some (some s)->s.m.mt=false:=fun s hs=>by
   cases e:s.m.mt with
   | false=>rfl
   | true=>exact absurd ⟨s,hs,e⟩ hx
  rw[zB hno]at st
  have eu:unl i σ1 σ2=σ2:=by
   unfold unl
   split
   ·rename_i s0 s' h0 h';rw[if_neg (by rw[hno s0 h0];exact Bool.false_ne_true)]
   ·rfl
  rw[eu]
  exact⟨ok2,st⟩
theorem StOk.lendO{l:Option Nat}(ok:StOk Γ H σ σV):StOk Γ H (lendO l σ) σV:=by
 cases l with
 | none=>exact ok
 | some i=>exact ok.lend
theorem qS{l:Option Nat}(ok:StOk Γ H1 σ1 σV)(ok2:StOk Γ H2 σ2 σV2)(st:Step (lendO l σ1) σV H1 σ2 σV2 H2):StOk Γ H2 (aJ6 l σ1 σ2) σV2/\Step σ1 σV H1 (aJ6 l σ1 σ2) σV2 H2:=by
 cases l with
 | none=>exact⟨ok2,st⟩
 | some i=>exact bT3 ok ok2 st
theorem bI1{l:Option Nat}{r:Res}{v:V}(st:Step (lendO l σ1) σV H1 σ2 σV2 H2)(h:iV Γ H2 σ2 σV2 r v):iV Γ H2 (aJ6 l σ1 σ2) σV2 r v:=by
 cases l with
 | none=>exact h
 | some i=>
   show iV Γ H2 (unl i σ1 σ2) σV2 r v
   have st':Step (lend i σ1) σV H1 σ2 σV2 H2:=st
   unfold unl
   split
   ·rename_i s0 s' h0 h'
    split
    ·rename_i hm
     cases r with
     | val d=>exact h
     | own d=>
       obtain⟨p,e1,e2,e3,e4⟩:=h
       refine⟨p,e1,e2,fun⟨j,t,ej,m,ea⟩=>e3 ?_,e4⟩
       rcases bF ej with⟨z,z2,_⟩ | ⟨z,z2⟩
       ·subst z
        rw[qR h0 hm]at st'
        obtain⟨t2,q1,q2,_⟩:=st'.fix j ⟨.lent,s0.d⟩ (by rw[List.getElem?_set_self (List.getElem?_eq_some_iff.mp h0).1]) (.inr rfl)
        exact⟨j,t2,q1,by rw[q2];exact fun z=>(by cases z),ea⟩
       ·exact⟨j,t,z2,m,ea⟩
     | slot j=>
       obtain⟨e1,t,e2⟩:=h
       refine⟨e1,?_⟩
       by_cases z:j=i
       ·subst z;exact⟨_,by rw[List.getElem?_set_self (List.getElem?_eq_some_iff.mp h').1]⟩
       ·exact⟨t,by rw[List.getElem?_set_ne (Ne.symm z)];exact e2⟩
    ·exact h
   ·exact h
end
structure ItD(J:It)(items:List D)(P:Hp->Prop):Prop where
 go:∀ H i d,P H->items[i]? = some d->J.go i H
 yld:∀ H i d y H',P H->items[i]? = some d->J.yld i H y H'->Same H H'/\Rp H' d y
 stop:∀ H,P H->J.stop items.length H
theorem aC1{J:It}{xs:List V}{P:Hp->Prop}{items:List D}(w:ItIs J xs P):ItD J items (fun H=>P H/\Rps H items xs) where
 go:=fun H i d ⟨h,r⟩ e=>by
  obtain⟨x,ex,_⟩:=r.get e
  exact w.go H i x h ex
 yld:=fun H i d y H' ⟨h,r⟩ e q=>by
  obtain⟨x,ex,rx⟩:=r.get e
  obtain⟨rfl,rfl⟩:=w.yld H i x y H' h ex q
  exact⟨.refl _,rx⟩
 stop:=fun H ⟨h,r⟩=>by
  refine w.stop H _ h ?_
  have:=r.length
  rw[List.getElem?_eq_none_iff]
  omega
noncomputable abbrev DI:=Sg->Option (List D×Option Nat×Sg)
noncomputable def dTI(Γ:Gm)(ri:DI):TI:=fun σV H R=>∃ σ,StOk Γ H σ σV/\∃ items l σ1,ri σ=some (items,l,σ1)/\∀ J H1 P,StOk Γ H1 σ1 σV->Step σ σV H σ1 σV H1->ItD J items P ->
 (∀ σ2 σV2 H2,Step (lendO l σ1) σV H1 σ2 σV2 H2->P H2)->R J H1
structure GI(X:Cx)(tg iter:Expr)(ri:DI):Prop where
 to:∀ Γ,PI X tg iter (dTI Γ ri)
theorem piW{X:Cx}{tg e:Expr}{t t':TI}(h:PI X tg e t)(w:∀ σ H Q,t' σ H Q->t σ H Q):PI X tg e t':=fun pins s σ H Q I q=>h pins s σ H Q I (w σ H Q q)
noncomputable def pR:D->Option (List D)
 | .lst l=>some l
 | .tup l=>some l
 | .str x=>some (gY x)
 | _=>none
noncomputable def dIt(r:DE):DI:=fun σ=>(r σ).bind fun x=>(rd x.2 x.1).bind fun d=>(pR d).bind fun l=>some (l,(match x.1 with | .slot i=>some i | _=>none),x.2)
theorem eN{H H1:Hp}{p:Addr}{o:HO}(h:H p=some o)(h1:H1 p=some o):fA H1 p=fA H p:=by unfold fA;rw[h,h1]
theorem aN5{Γ:Gm}{H1:Hp}{σ2:Sg}{σV:St}{x:Res}{v:V}{d:D}{items:List D}(ok1:StOk Γ H1 σ2 σV)(r1:iV Γ H1 σ2 σV x v)(e2:rd σ2 x=some d)(e3:pR d=some items)(vw:Vw H1 d v) :
  ∀ p b xs,v=.ref p->fA H1 p=some (b,xs)->Rps H1 items xs->∀ σ3 σV3 H3,Step (lendO (match x with | .slot i=>some i | _=>none) σ2) σV H1 σ3 σV3 H3->fA H3 p=some (b,xs)/\Rps H3 items xs:=by
 intro p b xs ev hq hr σ3 σV3 H3 st3
 have ext:Ext H1 H3:=st3.ext (Γ:=Γ) ok1.lendO
 refine⟨?_,hr.mono ext⟩
 cases x with
 | val d'=>
   cases e2
   subst ev
   cases d with
   | tup l'=>obtain⟨_,_,e,h1,_⟩:=eG vw;cases e;rw[eN h1 (ext.tup _ _ h1)];exact hq
   | lst l'=>
     cases r1 with
     | lst h1 _=>rw[eN h1 (ext.frz _ _ _ h1)];exact hq
   | dic ks vs=>cases e3
   | str z=>cases r1
   | _=>cases e3
 | own d'=>
   obtain⟨q,e4,ow,nn,_⟩:=r1
   rw[ev]at e4;cases e4
   obtain⟨o,ho,_⟩:=ow.obj
   rw[eN ho (st3.fr p o ho (fun z=>nn z.nv))];exact hq
 | slot i=>
   obtain⟨r1,s,hs⟩:=r1
   have ok1':StOk Γ H1 σ2 σV:=ok1
   by_cases hm:s.m=.val
   ·obtain⟨w,ew,rw'⟩:=ok1'.rel i s hs
    rw[r1]at ew;cases ew
    subst ev
    obtain⟨m,dd⟩:=s
    cases hm
    have e2':some dd=some d:=by
     have:rd σ2 (.slot i)=some dd:=by show(match σ2[i]? with | some (some s)=>some s.d | _=>none)=_;rw[hs]
     rw[← this];exact e2
    cases e2'
    have rp:Rp H1 d (.ref p):=rw'
    cases d with
    | tup l'=>obtain⟨_,_,e,h1,_⟩:=eG (.inl rp);cases e;rw[eN h1 (ext.tup _ _ h1)];exact hq
    | lst l'=>
      cases rp with
      | lst h1 _=>rw[eN h1 (ext.frz _ _ _ h1)];exact hq
    | dic ks vs=>cases e3
    | str z=>cases rp
    | _=>cases e3
   ·obtain⟨q,eq,ow⟩:=ok1'.ownAt hs hm
    rw[r1]at eq
    have eq:=Option.some.inj (Option.some.inj eq)
    rw[ev]at eq;cases eq
    obtain⟨o,ho,_⟩:=ow.obj
    have nm:¬ kB (lend i σ2) σV p:=by
     rintro⟨j,t,ej,m,ea⟩
     by_cases hmt:s.m.mt=true
     ·rw[qR hs hmt]at ej
      rcases bF ej with⟨_,z2,_⟩ | ⟨z,z2⟩
      ·cases z2;cases m
      ·exact ok1'.dis j i t s p z z2 hs m hm ea (by rw[r1,ev])
     ·rw[zB (fun s' hs'=>by rw[hs]at hs';cases hs';exact Bool.eq_false_iff.mpr hmt)]at ej
      by_cases z:j=i
      ·subst z;rw[hs]at ej;cases ej;exact hmt m
      ·exact ok1'.dis j i t s p z ej hs m hm ea (by rw[r1,ev])
    rw[eN ho (st3.fr p o ho nm)];exact hq
theorem fB{X:Cx}{tg e:Expr}{r:DE}(K:PySem.W.Frag)(hK:X.K=K)(h:GE X e r):GI X tg e (dIt r):=.mk fun Γ=>piW (bH7 K hK (h.to Γ)) fun σV H R ⟨σ,ok,items,l,σ1,e,k⟩=>by
 obtain⟨⟨x,σ2⟩,e1,e⟩:=aC e
 obtain⟨d,e2,e⟩:=aC e
 obtain⟨its,e3,e⟩:=aC e
 cases e
 refine⟨σ,ok,x,_,e1,fun v H1 ok1 r1 st1 f1=>?_⟩
 have vw:=r1.vw ok1 e2
 have stay:=aN5 ok1 r1 e2 e3 vw
 cases d with
 | lst l'=>
   cases e3
   obtain⟨p,xs,rfl,hq,hr⟩:=gU vw
   refine .inl ⟨xs,hq,k _ H1 _ ok1 st1 (aC1 (aM3 (xs:=xs))) fun σ3 σV3 H3 st3=>?_⟩
   obtain⟨h1,h2⟩:=stay p true xs rfl hq hr σ3 σV3 H3 st3
   exact⟨iO h1,h2⟩
 | tup l'=>
   cases e3
   obtain⟨p,xs,rfl,hq,hr⟩:=eG vw
   refine .inr ⟨xs,cN hq,k _ H1 _ ok1 st1 (aC1 (aW9 (xs:=xs))) fun σ3 σV3 H3 st3=>?_⟩
   obtain⟨h1,h2⟩:=stay p false xs rfl (cN hq) hr σ3 σV3 H3 st3
   exact⟨eP h1,h2⟩
 | str z=>
   cases e3
   obtain rfl:=gW vw
   exact k _ H1 (fun H=>True/\Rps H (gY z) (dQ z)) ok1 st1 (aC1 aX1) fun σ3 σV3 H3 st3=>⟨True.intro,sD z⟩
 | _=>cases e3
noncomputable def aJ7(lo:Int)(n:Nat):List D:=(List.range n).map fun(i:Nat)=>D.int (lo+(i:Int))
theorem bI2{H:Hp}(lo:Int)(n:Nat):Rps H (aJ7 lo n) (bG9 lo n):=by
 unfold aJ7 bG9
 induction List.range n with
 | nil=>exact .nil
 | cons a r ih=>exact .cons (.int _) ih
noncomputable def bM1(ra:DA):DI:=fun σ=>(ra σ).bind fun x=>(rds x.2 x.1).bind fun ds=>match ds with
 | [.int j]=>if -(2 ^ 62)<=j/\j < 2 ^ 62 then some (aJ7 0 j.toNat,none,x.2)else none
 | [.int i,.int j]=>if(-(2 ^ 62)<=i/\i < 2 ^ 62) /\ -(2 ^ 62)<=j/\j < 2 ^ 62 then some (aJ7 i (j-i).toNat,none,x.2)else none
 | _=>none
theorem zC{X:Cx}{tg e:Expr}{ra:DA}(h:∀ Γ,PI X tg e (bQ2 (dTA Γ ra)))(h1:∀ σ rs σ',ra σ=some (rs,σ')->rs.length=1):GI X tg e (bM1 ra):=.mk fun Γ=>piW (h Γ) fun σV H R ⟨σ,ok,items,l,σ1,e,k⟩=>by
 obtain⟨⟨x,σ2⟩,e1,e⟩:=aC e
 obtain⟨ds,e2,e⟩:=aC e
 refine⟨σ,ok,x,_,e1,fun vs H1 ok1 r1 st1 f1=>?_⟩
 have vw:=yV ok1 r1 e2
 have hl:=h1 _ _ _ e1
 dsimp only at e
 split at e
 ·split at e
  ·rename_i hj
   cases e
   cases vw with
   | cons a t=>
     cases t
     obtain rfl:=cX a
     exact⟨_,rfl,hj.1,hj.2,k _ H1 (fun H=>True/\Rps H _ _) ok1 st1 (aC1 aX0) fun σ3 σV3 H3 st3=>⟨True.intro,bI2 _ _⟩⟩
  ·cases e
 ·exfalso
  cases vw with
  | cons a t=>cases t with
    | cons b t=>
      cases r1 with
      | cons _ q _=>cases q with
        | cons _ q _=>simp at hl
 ·cases e
theorem aY8{r:DE}:∀ σ rs σ',aD r aW σ=some (rs,σ')->rs.length=1:=fun σ rs σ' e=>by
 obtain⟨x,_,e⟩:=aC e
 cases e;rfl
end Dv
namespace Dv
open PySem L2
noncomputable def aY9(g:DG)(b:DS):List D->Sg->Option Out
 | [],σ=>some (.nx σ)
 | d::r,σ=>(g d σ).bind fun σ1=>(b σ1).bind fun o=>match o with
   | .nx σ2=>aY9 g b r σ2
   | .ct σ2=>aY9 g b r σ2
   | .bk σ2=>some (.nx σ2)
   | .rt x σ2=>some (.rt x σ2)
   | .ex c f σ2=>some (.ex c f σ2)
noncomputable def aC2(l:Option Nat)(σ0:Sg):Out->Out
 | .nx σ=>.nx (aJ6 l σ0 σ)
 | .rt r σ=>.rt r (aJ6 l σ0 σ)
 | .bk σ=>.bk (aJ6 l σ0 σ)
 | .ct σ=>.ct (aJ6 l σ0 σ)
 | .ex c f σ=>.ex c f (aJ6 l σ0 σ)
noncomputable def aZ0(ri:DI)(g:DG)(b:DS):DS:=fun σ=>(ri σ).bind fun x=>(aY9 g b x.1 (lendO x.2.1 x.2.2)).bind fun o=>some (aC2 x.2.1 x.2.2 o)
theorem aZ1{Γ:Gm}{E:Ex}{own:List Nat}{ri:DI}{g:TG}{gd:DG}{b:DS}(hg:bC9 own g gd){D:Ends}{σV:St}{H:Hp}(h:dTS Γ E (aZ0 ri gd b) D σV H):cA0 (dTI Γ ri) g (dTS Γ E b) D σV H:=by
 obtain⟨σ,ok,o,e,k⟩:=h
 obtain⟨⟨items,l,σ1⟩,e1,e⟩:=aC e
 obtain⟨o1,e2,e⟩:=aC e
 cases e
 refine⟨σ,ok,items,l,σ1,e1,fun J H1 P ok1 st1 itd stay=>?_⟩
 dsimp only at e2
 -- the end that is wanted of the walk
 have endw:∀ σ2 σV2 H2,StOk Γ H2 σ2 σV2->Step (lendO l σ1) σV H1 σ2 σV2 H2->∀ o2,o2=o1->(∀ σ',o2=.nx σ'->∀ σV' H',StOk Γ H' σ' σV'->Step (lendO l σ1) σV H1 σ' σV' H'->D.nx σV' H'):=by
  intro σ2 σV2 H2 ok2 st2 o2 ho σ' ho' σV' H' ok' st'
  subst ho ho'
  obtain⟨q1,q2⟩:=qS ok1 ok' st'
  exact k σV' H' q1 (st1.trans q2)
 refine⟨fun i m σV2 H2=>m=items.length-i/\i<=items.length/\∃ σ2,aY9 gd b (items.drop i) σ2=some o1/\StOk Γ H2 σ2 σV2/\Step (lendO l σ1) σV H1 σ2 σV2 H2,⟨items.length,by simp,Nat.zero_le _,lendO l σ1,by simpa using e2,ok1.lendO,.refl⟩,?_⟩
 rintro i m σV2 H2 ⟨rfl,hi,σ2,ef,ok2,st2⟩
 have hP:=stay σ2 σV2 H2 st2
 by_cases hlt:i < items.length
 ·have ei:items[i]? = some items[i]:=List.getElem?_eq_getElem hlt
  refine .inr ⟨itd.go H2 i _ hP ei,fun σV3 H3=>∃ m',m' < items.length-i/\m'=items.length-(i+1)/\i+1<=items.length/\∃ σ3,aY9 gd b (items.drop (i+1)) σ3=some o1/\StOk Γ H3 σ3 σV3/\Step (lendO l σ1) σV H1 σ3 σV3 H3,fun σ' H' q=>q,fun y H3 hy=>?_⟩
  obtain⟨sm,ry⟩:=itd.yld H2 i _ y H3 hP ei hy
  rw[List.drop_eq_getElem_cons hlt]at ef
  obtain⟨σ3,eg,ef⟩:=aC ef
  obtain⟨ob,eb,ef⟩:=aC ef
  refine hg Γ H3 _ _ _ σ2 σV2 _ y σ3 _ (ok2.same sm) (st2.trans (.same sm)) ry eg fun σV3 ok3 st3 _ _=>?_
  refine⟨σ3,ok3,ob,eb,?_⟩
  cases ob with
  | nx σ4=>exact fun σV4 H4 ok4 st4=>⟨_,by omega,rfl,hlt,σ4,ef,ok4,st3.trans st4⟩
  | ct σ4=>exact fun σV4 H4 ok4 st4=>⟨_,by omega,rfl,hlt,σ4,ef,ok4,st3.trans st4⟩
  | bk σ4=>
    cases ef
    exact fun σV4 H4 ok4 st4=>endw σ4 σV4 H4 ok4 (st3.trans st4) _ rfl σ4 rfl σV4 H4 ok4 (st3.trans st4)
  | rt x σ4=>
    cases ef
    intro v σV4 H4 ok4 r4 st4
    obtain⟨q1,q2⟩:=qS ok1 ok4 (st3.trans st4)
    exact k v σV4 H4 q1 (bI1 (st3.trans st4) r4) (st1.trans q2)
  | ex c f σ4=>
    cases ef
    intro v d σV4 H4 ok4 r4 st4
    obtain⟨q1,q2⟩:=qS ok1 ok4 (st3.trans st4)
    exact k v d σV4 H4 q1 r4 (st1.trans q2)
 ·have e0:i=items.length:=by omega
  subst e0
  rw[List.drop_length]at ef
  cases ef
  exact .inl ⟨itd.stop H2 hP,endw σ2 σV2 H2 ok2 st2 _ rfl σ2 rfl σV2 H2 ok2 st2⟩
theorem aN6{X:Cx}{E:Ex}{own:List Nat}{st:Stmt}{ri:DI}{g:TG}{gd:DG}{b:DS}(hg:bC9 own g gd)(h:∀ Γ,PS X st (cA0 (dTI Γ ri) g (dTS Γ E b))):GS E X st (aZ0 ri gd b):=.mk fun Γ=>psW (h Γ) fun _ _ _=>aZ1 hg
theorem aN7:∃ n:Nat,1000000<=n:=⟨_,Nat.le_refl _⟩
noncomputable def bM2:Nat:=Classical.choose aN7
theorem bI3:1000000<=bM2:=Classical.choose_spec aN7
noncomputable def kS(c:DT)(b:DS):Nat->Sg->Option Out
 | 0,_=>none
 | n+1,σ=>(c σ).bind fun x=>if x.1=true then(b x.2).bind fun o=>match o with
   | .nx σ2=>kS c b n σ2
   | .ct σ2=>kS c b n σ2
   | .bk σ2=>some (.nx σ2)
   | .rt r σ2=>some (.rt r σ2)
   | .ex c f σ2=>some (.ex c f σ2)else some (.nx x.2)
noncomputable def aC3(c:DT)(b:DS):DS:=fun σ=>kS c b bM2 σ
theorem aH8{Γ:Gm}{E:Ex}{c:DT}{b:DS}{D:Ends}{σV:St}{H:Hp}(h:dTS Γ E (aC3 c b) D σV H):aK6 (dTT Γ c) (dTS Γ E b) D σV H:=by
 obtain⟨σ,ok,o,e,k⟩:=h
 refine⟨fun m σV2 H2=>∃ σ2,kS c b m σ2=some o/\StOk Γ H2 σ2 σV2/\Step σ σV H σ2 σV2 H2,⟨bM2,σ,e,ok,.refl⟩,?_⟩
 rintro m σV2 H2 ⟨σ2,ew,ok2,st2⟩
 cases m with
 | zero=>cases ew
 | succ n=>
   obtain⟨⟨t,σ3⟩,e1,ew⟩:=aC ew
   refine⟨σ2,ok2,t,σ3,e1,fun H3 ok3 st3=>?_⟩
   dsimp only at ew
   split at ew
   ·rename_i ht
    rw[if_pos ht]
    obtain⟨ob,eb,ew⟩:=aC ew
    refine⟨fun σV4 H4=>∃ m',m' < n+1/\∃ σ4,kS c b m' σ4=some o/\StOk Γ H4 σ4 σV4/\Step σ σV H σ4 σV4 H4,fun _ _ q=>q,σ3,ok3,ob,eb,?_⟩
    cases ob with
    | nx σ4=>exact fun σV4 H4 ok4 st4=>⟨n,Nat.lt_succ_self n,σ4,ew,ok4,(st2.trans st3).trans st4⟩
    | ct σ4=>exact fun σV4 H4 ok4 st4=>⟨n,Nat.lt_succ_self n,σ4,ew,ok4,(st2.trans st3).trans st4⟩
    | bk σ4=>cases ew;exact fun σV4 H4 ok4 st4=>k σV4 H4 ok4 ((st2.trans st3).trans st4)
    | rt x σ4=>cases ew;exact fun v σV4 H4 ok4 r4 st4=>k v σV4 H4 ok4 r4 ((st2.trans st3).trans st4)
    | ex c f σ4=>cases ew;exact fun v d σV4 H4 ok4 r4 st4=>k v d σV4 H4 ok4 r4 ((st2.trans st3).trans st4)
   ·rename_i ht
    rw[if_neg ht]
    cases ew
    exact k σV2 H3 ok3 (st2.trans st3)
theorem aZ2{X:Cx}{E:Ex}{st:Stmt}{c:DT}{b:DS}(h:∀ Γ,PS X st (aK6 (dTT Γ c) (dTS Γ E b))):GS E X st (aC3 c b):=.mk fun Γ=>psW (h Γ) fun _ _ _=>aH8
noncomputable def bN(ow:List Nat)(σ:Sg):Sg:=ow.foldl (fun σ i=>σ.set i none) σ
noncomputable def jE(ow:List Nat)(σ τ:Sg):Sg:=ow.foldl (fun τ i=>τ.set i (σ[i]?.getD none)) τ
theorem eS{α:Type}:∀ (ow:List Nat) (σ:List (Option α)),(ow.foldl (fun σ i=>σ.set i none) σ).length=σ.length
 | [],_=>rfl
 | i::r,σ=>(eS r (σ.set i none)).trans (by simp)
theorem dR{α:Type}:∀ (ow:List Nat) (σ:List (Option α)) (j:Nat),j∉ow->(ow.foldl (fun σ i=>σ.set i none) σ)[j]? = σ[j]?
 | [],_,_,_=>rfl
 | i::r,σ,j,h=>by
   have h1:i≠j:=fun z=>h (by rw[z];exact List.mem_cons_self)
   have h2:j∉r:=fun z=>h (List.mem_cons_of_mem _ z)
   show(r.foldl _ (σ.set i none))[j]? = _
   rw[dR r _ j h2,List.getElem?_set_ne h1]
theorem bM{α:Type}:∀ (ow:List Nat) (σ:List (Option α)) (j:Nat) (x:α),(ow.foldl (fun σ i=>σ.set i none) σ)[j]? = some (some x)->j∉ow/\σ[j]? = some (some x)
 | [],_,_,_,h=>⟨by simp,h⟩
 | i::r,σ,j,x,h=>by
   obtain⟨h1,h2⟩:=bM r (σ.set i none) j x h
   rcases bF h2 with⟨_,z,_⟩ | ⟨z,z2⟩
   ·cases z
   ·exact⟨by simp[z,h1],z2⟩
theorem kU:∀ (ow:List Nat) (σ τ:Sg),(jE ow σ τ).length=τ.length
 | [],_,_=>rfl
 | i::r,σ,τ=>(kU r σ (τ.set i (σ[i]?.getD none))).trans (by simp)
theorem hC:∀ (ow:List Nat) (σ τ:Sg) (j:Nat),j∉ow->(jE ow σ τ)[j]? = τ[j]?
 | [],_,_,_,_=>rfl
 | i::r,σ,τ,j,h=>by
   have h1:i≠j:=fun z=>h (by rw[z];exact List.mem_cons_self)
   have h2:j∉r:=fun z=>h (List.mem_cons_of_mem _ z)
   show(jE r σ (τ.set i (σ[i]?.getD none)))[j]? = _
   rw[hC r σ _ j h2,List.getElem?_set_ne h1]
theorem lP:∀ (ow:List Nat) (σ τ:Sg) (j:Nat),j∈ow->σ.length=τ.length->(jE ow σ τ)[j]? = σ[j]?
 | [],_,_,_,h,_=>by simp at h
 | i::r,σ,τ,j,h,hl=>by
   show(jE r σ (τ.set i (σ[i]?.getD none)))[j]? = _
   by_cases hr:j∈r
   ·exact lP r σ _ j hr (by simp[hl])
   ·rw[hC r σ _ j hr]
    have:j=i:=by rcases List.mem_cons.mp h with z | z;exact z;exact absurd z hr
    subst this
    by_cases hj:j < τ.length
    ·rw[List.getElem?_set_self hj,List.getElem?_eq_getElem (by omega:j < σ.length)];rfl
    ·rw[List.getElem?_eq_none_iff.mpr (by simp;omega),List.getElem?_eq_none_iff.mpr (by omega)]
section
variable{Γ:Gm}{H H1 H2:Hp}{σ σ1 τ:Sg}{σV σV2 σV3:St}{ow:List Nat}
theorem StOk.blank(ok:StOk Γ H τ σV2)(hl:σV3.length=σV2.length)(hv:∀ j,j∉ow->σV3[j]? = σV2[j]?):StOk Γ H (bN ow τ) σV3 where
 rel:=fun j t ej=>by
  obtain⟨h1,h2⟩:=bM ow τ j t ej
  rw[hv j h1];exact ok.rel j t h2
 dis:=fun j l t t' q n ej el m m' eq eq'=>by
  obtain⟨h1,h2⟩:=bM ow τ j t ej
  obtain⟨h3,h4⟩:=bM ow τ l t' el
  rw[hv j h1]at eq;rw[hv l h3]at eq'
  exact ok.dis j l t t' q n h2 h4 m m' eq eq'
 own:=fun j t q ej m eq=>by
  obtain⟨h1,h2⟩:=bM ow τ j t ej
  rw[hv j h1]at eq;exact ok.own j t q h2 m eq
 par:=fun j t q ej m eq=>by
  obtain⟨h1,h2⟩:=bM ow τ j t ej
  rw[hv j h1]at eq;exact ok.par j t q h2 m eq
 keep:=ok.keep
 dom:=ok.dom
 len:=by rw[bN,eS,hl];exact ok.len
theorem Step.blank{σb:Sg}(hb:∀ (j:Nat) t,σb[j]? = some (some t)->j∉ow)(st:Step σb σV H1 τ σV2 H2)(hv:∀ j,j∉ow->σV3[j]? = σV2[j]?):Step σb σV H1 (bN ow τ) σV3 H2 where
 fr:=st.fr
 dom:=st.dom
 mu:=fun a ⟨j,t,ej,m,ea⟩=>by
  obtain⟨h1,h2⟩:=bM ow τ j t ej
  rw[hv j h1]at ea;exact st.mu a ⟨j,t,h2,m,ea⟩
 nv:=fun a ⟨j,t,ej,m,ea⟩=>by
  obtain⟨h1,h2⟩:=bM ow τ j t ej
  rw[hv j h1]at ea;exact st.nv a ⟨j,t,h2,m,ea⟩
 kp:=fun j t ej=>by
  obtain⟨t',et⟩:=st.kp j t ej
  exact⟨t',by rw[bN,dR ow τ j (hb j t ej)];exact et⟩
 fix:=fun j t ej m=>by
  obtain⟨t',et,h1,h2,h3⟩:=st.fix j t ej m
  exact⟨t',by rw[bN,dR ow τ j (hb j t ej)];exact et,h1,h2,by rw[hv j (hb j t ej)];exact h3⟩
 lt:=fun j t ej m=>by
  obtain⟨h1,h2⟩:=bM ow τ j t ej
  exact st.lt j t h2 m
theorem kC(ok1:StOk Γ H1 σ1 σV)(ok:StOk Γ H τ σV2)(hv:∀ j,j∉ow->σV2[j]? = σV[j]?)(hl:σV2.length=σV.length)(st:Step (bN ow σ1) σV2 H1 τ σV2 H) :
  StOk Γ H (jE ow σ1 τ) σV/\Step σ1 σV H1 (jE ow σ1 τ) σV H:=by
 have lens:σ1.length=τ.length:=by rw[ok1.len,ok.len,hl]
 have okb:StOk Γ H1 (bN ow σ1) σV2:=ok1.blank hl hv
 have ext:Ext H1 H:=st.ext okb
 have get:∀ (j:Nat) t,(jE ow σ1 τ)[j]? = some (some t)->(j∈ow/\σ1[j]? = some (some t))\/(j∉ow/\τ[j]? = some (some t)):=fun j t e=>by
  by_cases h:j∈ow
  ·rw[lP ow σ1 τ j h lens]at e;exact .inl ⟨h,e⟩
  ·rw[hC ow σ1 τ j h]at e;exact .inr ⟨h,e⟩
 have bget:∀ (j:Nat) t,(bN ow σ1)[j]? = some (some t)->j∉ow/\σ1[j]? = some (some t):=fun j t e=>bM ow σ1 j t e
 have bput:∀ (j:Nat),j∉ow->(bN ow σ1)[j]? = σ1[j]?:=fun j h=>dR ow σ1 j h
 have subM:∀ a,kB (bN ow σ1) σV2 a->∃ (j:Nat) (t:Sl),j∉ow/\σ1[j]? = some (some t)/\t.m.mt=true/\σV[j]? = some (some (.ref a)):=fun a ⟨j,t,ej,m,ea⟩=>by
  obtain⟨h1,h2⟩:=bget j t ej
  rw[hv j h1]at ea;exact⟨j,t,h1,h2,m,ea⟩
 have subN:∀ a,aM8 (bN ow σ1) σV2 a->∃ (j:Nat) (t:Sl),j∉ow/\σ1[j]? = some (some t)/\t.m≠.val/\σV[j]? = some (some (.ref a)):=fun a ⟨j,t,ej,m,ea⟩=>by
  obtain⟨h1,h2⟩:=bget j t ej
  rw[hv j h1]at ea;exact⟨j,t,h1,h2,m,ea⟩
 have cross:∀ (j l:Nat) t t' q,j∈ow->σ1[j]? = some (some t)->l∉ow->τ[l]? = some (some t')->t.m≠.val->t'.m≠.val->(t.m.mt=true\/t'.m.mt=true)->σV[j]? = some (some (.ref q))->σV[l]? = some (some (.ref q))->False:=by
  intro j l t t' q hj ej hln el m m' mm eq eq'
  rw[← hv l hln]at eq'
  obtain⟨p,ep,ow'⟩:=ok1.ownAt ej m
  rw[eq]at ep
  have ep:=Option.some.inj (Option.some.inj ep)
  cases ep
  obtain⟨o,ho,_⟩:=ow'.obj
  rcases mm with mm | mm
  ·rcases st.nv q ⟨l,t',el,m',eq'⟩with z | z
   ·obtain⟨l',t2,h1,h2,h3,h4⟩:=subN q z
    exact ok1.dis j l' t t2 q (fun y=>h1 (by rw[← y];exact hj)) ej h2 mm h3 eq h4
   ·rw[ho]at z;cases z
  ·rcases st.mu q ⟨l,t',el,mm,eq'⟩with z | z
   ·obtain⟨l',t2,h1,h2,h3,h4⟩:=subM q z
    exact ok1.dis l' j t2 t q (fun y=>h1 (by rw[y];exact hj)) h2 ej h3 m h4 eq
   ·rw[ho]at z;cases z
 constructor
 ·refine⟨fun j t ej=>?_,fun j l t t' q n ej el m m' eq eq'=>?_,fun j t q ej m eq=>?_,fun j t q ej m eq=>?_,ok.keep,ok.dom,by rw[kU,ok.len,hl]⟩
  ·rcases get j t ej with⟨h,e⟩ | ⟨h,e⟩
   ·obtain⟨w,ew,r⟩:=ok1.rel j t e
    refine⟨w,ew,r.mono ext fun p o ep m hp=>st.fr p o hp fun z=>?_⟩
    obtain⟨l',t2,h1,h2,h3,h4⟩:=subM p z
    exact ok1.dis l' j t2 t p (fun y=>h1 (by rw[y];exact h)) h2 e h3 m h4 (by rw[ew,ep])
   ·obtain⟨w,ew,r⟩:=ok.rel j t e
    exact⟨w,by rw[← hv j h];exact ew,r⟩
  ·rcases get j t ej with⟨h,e⟩ | ⟨h,e⟩
   ·rcases get l t' el with⟨h',e'⟩ | ⟨h',e'⟩
    ·exact ok1.dis j l t t' q n e e' m m' eq eq'
    ·exact cross j l t t' q h e h' e' (fX m) m' (.inl m) eq eq'
   ·rcases get l t' el with⟨h',e'⟩ | ⟨h',e'⟩
    ·exact cross l j t' t q h' e' h e m' (fX m) (.inr m) eq' eq
    ·rw[← hv j h]at eq;rw[← hv l h']at eq'
     exact ok.dis j l t t' q n e e' m m' eq eq'
  ·rcases get j t ej with⟨h,e⟩ | ⟨h,e⟩
   ·exact ok1.own j t q e m eq
   ·rw[← hv j h]at eq;exact ok.own j t q e m eq
  ·rcases get j t ej with⟨h,e⟩ | ⟨h,e⟩
   ·exact ok1.par j t q e m eq
   ·rw[← hv j h]at eq;exact ok.par j t q e m eq
 ·refine⟨fun a o e n=>st.fr a o e fun z=>?_,st.dom,fun a ⟨j,t,ej,m,ea⟩=>?_,fun a ⟨j,t,ej,m,ea⟩=>?_,fun j t ej=>?_,fun j t ej m=>?_,fun j t ej m=>?_⟩
  ·obtain⟨l',t2,h1,h2,h3,h4⟩:=subM a z
   exact n ⟨l',t2,h2,h3,h4⟩
  ·rcases get j t ej with⟨h,e⟩ | ⟨h,e⟩
   ·exact .inl ⟨j,t,e,m,ea⟩
   ·rw[← hv j h]at ea
    rcases st.mu a ⟨j,t,e,m,ea⟩with z | z
    ·obtain⟨l',t2,h1,h2,h3,h4⟩:=subM a z
     exact .inl ⟨l',t2,h2,h3,h4⟩
    ·exact .inr z
  ·rcases get j t ej with⟨h,e⟩ | ⟨h,e⟩
   ·exact .inl ⟨j,t,e,m,ea⟩
   ·rw[← hv j h]at ea
    rcases st.nv a ⟨j,t,e,m,ea⟩with z | z
    ·obtain⟨l',t2,h1,h2,h3,h4⟩:=subN a z
     exact .inl ⟨l',t2,h2,h3,h4⟩
    ·exact .inr z
  ·by_cases h:j∈ow
   ·exact⟨t,by rw[lP ow σ1 τ j h lens];exact ej⟩
   ·obtain⟨t',et⟩:=st.kp j t (by rw[bput j h];exact ej)
    exact⟨t',by rw[hC ow σ1 τ j h];exact et⟩
  ·by_cases h:j∈ow
   ·exact⟨t,by rw[lP ow σ1 τ j h lens];exact ej,rfl,fun _=>rfl,rfl⟩
   ·obtain⟨t',et,h1,h2,h3⟩:=st.fix j t (by rw[bput j h];exact ej) m
    exact⟨t',by rw[hC ow σ1 τ j h];exact et,h1,h2,rfl⟩
  ·rcases get j t ej with⟨h,e⟩ | ⟨h,e⟩
   ·exact⟨t,e,m⟩
   ·obtain⟨t1,e1,m1⟩:=st.lt j t e m
    exact⟨t1,(bget j t1 e1).2,m1⟩
end
noncomputable def zD(ow:List Nat)(g:DG)(t:DT)(e:DE):List D->Sg->Option (List D×Sg)
 | [],τ=>some ([],τ)
 | d :: r,τ=>(g d τ).bind fun τ1=>(t τ1).bind fun x=>if x.1=true then(e x.2).bind fun y=>match y.1 with
     | .val d'=>(zD ow g t e r (bN ow y.2)).bind fun z=>some (d'::z.1,z.2)
     | _=>none else zD ow g t e r (bN ow x.2)
noncomputable def jF:DT:=fun σ=>some (true,σ)
noncomputable def fY(ow:List Nat)(ri:DI)(g:DG)(t:DT)(e:DE):DE:=fun σ=>(ri σ).bind fun x=>if x.1.length<=sizeLine then(zD ow g t e x.1 (bN ow (lendO x.2.1 x.2.2))).bind fun y=>
 some (.own (.lst y.1),aJ6 x.2.1 x.2.2 (jE ow (lendO x.2.1 x.2.2) y.2))else none
theorem aN8{Γ:Gm}{ow:List Nat}{ri:DI}{g:TG}{gd:DG}{t:DT}{e:DE}(hg:bC9 ow g gd){σV:St}{H:Hp}{Q:VK}(h:dTE Γ (fY ow ri gd t e) σV H Q) :
  bG7 ow (dTI Γ ri) g (dTT Γ t) (dTE Γ e) σV H Q:=by
 obtain⟨σ,ok,res,σ',er,k⟩:=h
 obtain⟨⟨items,l,σ1⟩,e1,er⟩:=aC er
 dsimp only at er
 split at er
 case isFalse=>cases er
 case isTrue hlen=>
 obtain⟨⟨all,τe⟩,e2,er⟩:=aC er
 cases er
 refine⟨σ,ok,items,l,σ1,e1,fun J H1 P ok1 st1 itd stay=>?_⟩
 have bl:(blank ow σV).length=σV.length:=eS ow σV
 have bo:∀ j,j∉ow->(blank ow σV)[j]? = σV[j]?:=fun j hj=>dR ow σV j hj
 have okL:StOk Γ H1 (lendO l σ1) σV:=ok1.lendO
 have okB:StOk Γ H1 (bN ow (lendO l σ1)) (blank ow σV):=okL.blank bl bo
 have hb:∀ (j:Nat) t,(bN ow (lendO l σ1))[j]? = some (some t)->j∉ow:=fun j t ej=>(bM ow _ j t ej).1
 -- a step within,as a step of the whole
 have whole:∀ τ H2,StOk Γ H2 τ (blank ow σV)->Step (bN ow (lendO l σ1)) (blank ow σV) H1 τ (blank ow σV) H2->StOk Γ H2 (jE ow (lendO l σ1) τ) σV/\Step (lendO l σ1) σV H1 (jE ow (lendO l σ1) τ) σV H2:=
  fun τ H2 ok2 st2=>kC okL ok2 bo bl st2
 refine⟨fun i m ys H2=>m=items.length-i/\i<=items.length/\∃ τ don eE,zD ow gd t e (items.drop i) τ=some (eE,τe)/\don++eE=all/\don.length<=i/\Rps H2 don ys/\StOk Γ H2 τ (blank ow σV)/\Step (bN ow (lendO l σ1)) (blank ow σV) H1 τ (blank ow σV) H2,
  ⟨items.length,by simp,Nat.zero_le _,bN ow (lendO l σ1),[],all,by simpa using e2,rfl,Nat.zero_le _,.nil,okB,.refl⟩,?_⟩
 rintro i m ys H2 ⟨rfl,hi,τ,don,eE,ec,hall,hdl,hr,ok2,st2⟩
 have hyl:=hr.length
 obtain⟨okw,stw⟩:=whole τ H2 ok2 st2
 have hP:=stay _ σV H2 stw
 refine⟨by omega,?_⟩
 by_cases hlt:i < items.length
 ·have ei:items[i]? = some items[i]:=List.getElem?_eq_getElem hlt
  refine .inr ⟨itd.go H2 i _ hP ei,fun y H3 hy=>?_⟩
  obtain⟨sm,ry⟩:=itd.yld H2 i _ y H3 hP ei hy
  rw[List.drop_eq_getElem_cons hlt]at ec
  obtain⟨τ1,eg,ec⟩:=aC ec
  obtain⟨⟨b,τ2⟩,et,ec⟩:=aC ec
  refine hg Γ H3 _ _ _ τ (blank ow σV) _ y τ1 _ (ok2.same sm) (st2.trans (.same sm)) ry eg fun σV3 ok3 st3 l3 f3=>?_
  have ext3:Ext H2 H3:=.same sm
  refine⟨τ1,ok3,b,τ2,et,fun H4 ok4 st4=>?_⟩
  have ext4:Ext H3 H4:=st4.ext ok3
  dsimp only at ec
  split at ec
  ·rename_i hbt
   dsimp only
   rw[if_pos hbt]
   obtain⟨⟨r5,τ3⟩,ee,ec⟩:=aC ec
   refine⟨τ2,ok4,r5,τ3,ee,fun v H5 ok5 r5' st5 f5=>?_⟩
   dsimp only at ec
   split at ec
   ·rename_i d'
    obtain⟨⟨rest',τe'⟩,ec',ec⟩:=aC ec
    cases ec
    refine⟨_,by omega,rfl,hlt,bN ow τ3,don++[d'],rest',ec',by rw[← hall];simp,by simp;omega,?_,ok5.blank (by rw[l3]) (fun j hj=>((f3 j hj).1).symm),Step.blank hb ((st3.trans st4).trans st5) fun j hj=>((f3 j hj).1).symm⟩
    exact((hr.mono ext3).mono ext4 |>.mono (st5.ext ok4)).append (.cons r5' .nil)
   ·cases ec
  ·rename_i hbf
   dsimp only
   rw[if_neg hbf]
   refine⟨_,by omega,rfl,hlt,bN ow τ2,don,eE,ec,hall,by omega,(hr.mono ext3).mono ext4,ok4.blank (by rw[l3]) (fun j hj=>((f3 j hj).1).symm),Step.blank hb (st3.trans st4) fun j hj=>((f3 j hj).1).symm⟩
 ·have e0:i=items.length:=by omega
  subst e0
  rw[List.drop_length]at ec
  cases ec
  rw[List.append_nil]at hall
  subst hall
  refine .inl ⟨itd.stop H2 hP,fun p hp=>?_⟩
  obtain⟨okU,stU⟩:=qS ok1 okw stw
  have sm:Same H2 (upd H2 p (.lst ys)):=bS hp
  have nw:aH5 H2 (upd H2 p (.lst ys)) (.own (.lst don)) (.ref p):=⟨p,rfl,hp,ys,aT,hr.mono (.same sm)⟩
  exact k _ _ (okU.same sm) (nw.res okU) ((st1.trans stU).trans (.same sm)) (nw.frh.back (st1.trans stU))
theorem cY{X:Cx}{ow:List Nat}{ex:Expr}{ri:DI}{g:TG}{gd:DG}{t:DT}{e:DE}(hg:bC9 ow g gd)(h:∀ Γ,PE X ex (bG7 ow (dTI Γ ri) g (dTT Γ t) (dTE Γ e))):GE X ex (fY ow ri gd t e):=.mk fun Γ=>peW (h Γ) fun _ _ _=>aN8 hg
theorem cO{X:Cx}{Γ:Gm}:bG6 X [] (dTT Γ jF):=fun pins s σ H Q I ⟨τ,ok,b,σ',e,k⟩=>aW3 pins s σ H Q I (by cases e;exact k H ok .refl)
theorem aC4{X:Cx}{Γ:Gm}{c:Expr}{t:DT}(h:GT X c t):bG6 X [c] (dTT Γ t):=aW4 (h.to Γ)
end Dv
namespace Dv
open PySem L2
noncomputable abbrev Run:=List Sl->Option (Res×List Sl)
structure ArgOk(H:Hp)(as:List Sl)(vs:List V):Prop where
 len:as.length=vs.length
 rel:∀ (i:Nat) s,as[i]? = some s->∃ v,vs[i]? = some v/\aY0 H s v
 dis:∀ (i j:Nat) s t p,i≠j->as[i]? = some s->as[j]? = some t->s.m.mt=true->t.m≠.val->vs[i]? = some (.ref p)->vs[j]? = some (.ref p)->False
 own:∀ (i:Nat) s,as[i]? = some s->s.m≠.own
noncomputable def bM3(as:List Sl)(vs:List V)(a:Addr):Prop:=∃ (i:Nat) (s:Sl),as[i]? = some s/\s.m.mt=true/\vs[i]? = some (.ref a)
structure PostOk(as:List Sl)(vs:List V)(H:Hp)(as':List Sl)(H':Hp):Prop where
 rel:∀ (i:Nat) s,as[i]? = some s->s.m.mt=true->∃ s' v,as'[i]? = some s'/\s'.m=s.m/\vs[i]? = some v/\aY0 H' s' v
 fr:∀ a o,H a=some o->¬ bM3 as vs a->H' a=some o
 dom:∀ a,H' a=none->H a=none
noncomputable def dsp(n:Nat)(run:Run):Sp:=fun vs H Q _=>∃ as res as',ArgOk H as vs/\as.length=n/\run as=some (res,as')/\∀ v H',PostOk as vs H as' H'->aH5 H H' res v->Q v H'
noncomputable def bT4(σ:Sg):Res->Option Res
 | .val d=>some (.val d)
 | .own d=>some (.own d)
 | .slot i=>match σ[i]? with
   | some (some s)=>if s.m=.own then some (.own s.d)else if s.m=.val then some (.val s.d)else none
   | _=>none
noncomputable def pD:List Sl->Sg->List Sl
 | [],_=>[]
 | a::as,some s::σ=>(if a.m=.val then a else s)::pD as σ
 | a::as,_::σ=>a::pD as σ
 | a::as,[]=>a::as
noncomputable def ini(len:Nat)(as:List Sl):Sg:=as.map some++List.replicate (len-as.length) none
noncomputable def pE(len:Nat)(body:DS):Run:=fun as=>(body (ini len as)).bind fun o=>match o with
 | .nx σ=>some (.val .non,pD as σ)
 | .rt r σ=>(bT4 σ r).bind fun r'=>some (r',pD as σ)
 | _=>none
theorem iW{len:Nat}{as:List Sl}{i:Nat}{s:Sl}:(ini len as)[i]? = some (some s)↔as[i]? = some s:=by
 unfold ini
 by_cases h:i < as.length
 ·rw[List.getElem?_append_left (by simpa using h),List.getElem?_map]
  cases as[i]? <;> simp
 ·rw[List.getElem?_append_right (by simpa using h),List.getElem?_replicate,List.getElem?_eq_none_iff.mpr (by omega)]
  split<;>simp
theorem fO{N:List Str}{vs:List V}{i:Nat}{v:V}:(L2.fV N vs)[i]? = some (some v)↔vs[i]? = some v:=by
 unfold L2.fV
 by_cases h:i < vs.length
 ·rw[List.getElem?_append_left (by simpa using h),List.getElem?_map]
  cases vs[i]? <;> simp
 ·rw[List.getElem?_append_right (by simpa using h),List.getElem?_replicate,List.getElem?_eq_none_iff.mpr (by omega)]
  split<;>simp
theorem aC5:∀ {as:List Sl} {σ:Sg} {i:Nat} {a s:Sl},as[i]? = some a->σ[i]? = some (some s)->(pD as σ)[i]? = some (if a.m=.val then a else s)
 | [],_,_,_,_,h,_=>by simp at h
 | _::_,[],_,_,_,_,h=>by simp at h
 | a::as,o::σ,0,a',s,h,h'=>by
   simp at h h'
   subst h h'
   unfold pD
   simp
 | a::as,o::σ,i+1,a',s,h,h'=>by
   have:=aC5 (as:=as) (σ:=σ) (i:=i) (a:=a') (s:=s) (by simpa using h) (by simpa using h')
   cases o<;>(unfold pD;simpa using this)
section
variable{P:Program}{w:World}{K:PySem.W.Frag}{mg:Str->Option Value}{base:Heap}
theorem cE{x qual:Str}{st:Stmt}{f:Addr}{fd:FuncData}{N ps:List Str}{k:Nat}(F:Fun K x qual st f fd)(S:FnScope N ps (aO st))(hNl:ps.length<=N.length)(body:DS)
  (hb:∀ (cdv:Value) (A:Around) (outer:List Env) (s:Shared) (H:Hp) (E:XK),Room k (A.deeper (PyProof.Rows.envOfC qual (aO st) s.heap.objs.size f cdv))->GSs Ex.no (bB9 CX0 P w K mg base N qual (aO st) f cdv A outer s H E).nox (jX st) body) :
  FnOk P w K mg base CX0 (k+1) f fd ps (dsp ps.length (pE N.length body)):=by
 refine F.ok S (fun vs H Q E ⟨as,res,as',ok,hl,_⟩=>by rw[← ok.len];exact hl) fun cdv A outer s H vs Q E hr h=>?_
 obtain⟨as,res,as',ok,hl,hrun,k⟩:=h
 obtain⟨o,eo,hrun⟩:=aC hrun
 refine⟨_,(hb cdv A outer s H E hr).to ⟨H,bM3 as vs⟩,ini N.length as,?_,o,eo,?_⟩
 ·refine⟨fun i s e=>?_,fun i j s t p n ei ej m m' e e'=>?_,fun i s p ei m=>?_,fun i s p ei m e=>?_,fun a o e _=>e,fun a e=>e,?_⟩
  ·obtain⟨v,e1,r⟩:=ok.rel i s (iW.mp e)
   exact⟨v,fO.mpr e1,r⟩
  ·exact ok.dis i j s t p n (iW.mp ei) (iW.mp ej) m m' (fO.mp e) (fO.mp e')
  ·exact absurd m (ok.own i s (iW.mp ei))
  ·exact⟨i,s,iW.mp ei,by rw[m];rfl,fO.mp e⟩
  ·unfold ini L2.fV
   have:=ok.len
   simp;omega
 ·have post:∀ σ σV' H',StOk ⟨H,bM3 as vs⟩ H' σ σV'->Step (ini N.length as) (L2.fV N vs) H σ σV' H'->PostOk as vs H (pD as σ) H':=fun σ σV' H' ok' st'=>by
   have nl:∀ a,kB (ini N.length as) (L2.fV N vs) a->bM3 as vs a:=fun a ⟨j,t,ej,m,ea⟩=>⟨j,t,iW.mp ej,m,fO.mp ea⟩
   refine⟨fun i a ei m=>?_,fun a o e n=>st'.fr a o e fun z=>n (nl a z),st'.dom⟩
   have hp:a.m=.par:=by
    have h0:=ok.own i a ei
    cases q:a.m with
    | par=>rfl
    | own=>exact absurd q h0
    | val=>rw[q]at m;cases m
    | lent=>rw[q]at m;cases m
   obtain⟨s',es,ms,_,ev⟩:=st'.fix i a (iW.mpr ei) (.inl hp)
   obtain⟨v,e1,r⟩:=ok'.rel i s' es
   obtain⟨v0,e0,_⟩:=ok.rel i a ei
   have:some (some v)=some (some v0):=by rw[← e1,ev];exact fO.mpr e0
   cases this
   refine⟨s',v,?_,ms,e0,r⟩
   rw[aC5 ei es,if_neg (by rw[hp];exact fun z=>nomatch z)]
  cases o with
  | nx σ=>
    cases hrun
    exact fun σV' H' ok' st'=>k .non H' (post σ σV' H' ok' st') .non
  | rt r σ=>
    obtain⟨r',e1,hrun⟩:=aC hrun
    cases hrun
    intro v σV' H' ok' r1 st'
    refine k v H' (post σ σV' H' ok' st') ?_
    cases r with
    | val d=>cases e1;exact r1
    | own d=>
      cases e1
      obtain⟨p,q1,q2,q3,q4⟩:=r1
      exact⟨p,q1,q4,q2⟩
    | slot i=>
      obtain⟨q1,s',q2⟩:=r1
      have e1':(match σ[i]? with | some (some s)=>if s.m=.own then some (Res.own s.d)else if s.m=.val then some (.val s.d)else none | _=>none)=some res:=e1
      rw[q2]at e1'
      dsimp only at e1'
      obtain⟨v',ev,rv⟩:=ok'.rel i s' q2
      rw[q1]at ev;cases ev
      split at e1'
      ·rename_i hm
       cases e1'
       obtain⟨p,rfl,ow⟩:=(cP (by rw[hm];exact fun z=>nomatch z)).mp rv
       exact⟨p,rfl,ok'.own i s' p q2 hm q1,ow⟩
      ·split at e1'
       ·rename_i hm
        cases e1'
        obtain⟨m,d⟩:=s'
        cases hm
        exact rv
       ·cases e1'
  | bk σ=>cases hrun
  | ct σ=>cases hrun
  | ex c f σ=>cases hrun
end
noncomputable def zE(σ:Sg):Res->Option Sl
 | .val d=>some ⟨.val,d⟩
 | .own d=>some ⟨.par,d⟩
 | .slot i=>match σ[i]? with
   | some (some s)=>some ⟨if s.m.mt=true then .par else s.m,s.d⟩
   | _=>none
noncomputable def sE(σ:Sg):List Res->Option (List Sl)
 | []=>some []
 | r::rs=>(zE σ r).bind fun a=>(sE σ rs).bind fun as=>some (a::as)
noncomputable def aJ8(i:Nat):List Res->Bool
 | []=>false
 | .slot j::rs=>decide (i=j)||aJ8 i rs
 | _::rs=>aJ8 i rs
noncomputable def dG:List Res->Bool
 | []=>true
 | .slot i::rs=>!aJ8 i rs&&dG rs
 | _::rs=>dG rs
noncomputable def hU(j:Nat):List Res->List Sl->Option Sl
 | .slot i::rs,a::as=>if i=j then some a else hU j rs as
 | _::rs,_::as=>hU j rs as
 | _,_=>none
noncomputable def iX(rs:List Res)(as:List Sl):Nat->Sg->Sg
 | _,[]=>[]
 | k,some s::σ=>(match hU k rs as with
   | some a=>some (if s.m.mt=true then⟨s.m,a.d⟩else s)
   | none=>some s)::iX rs as (k+1) σ
 | k,none::σ=>none::iX rs as (k+1) σ
noncomputable def aX(n:Nat)(run:Run)(ra:DA):DE:=fun σ=>(ra σ).bind fun x=>(sE x.2 x.1).bind fun as=>if as.length=n/\dG x.1=true then(run as).bind fun y=>some (y.1,iX x.1 y.2 0 x.2)else none
theorem pS{σ:Sg}:∀ {rs:List Res} {as:List Sl},sE σ rs=some as->as.length=rs.length/\∀ (k:Nat) r,rs[k]? = some r->∃ a,as[k]? = some a/\zE σ r=some a
 | [],as,h=>by cases h;exact⟨rfl,fun k r e=>by simp at e⟩
 | r::rs,as,h=>by
   obtain⟨a,e1,h⟩:=aC h
   obtain⟨as',e2,h⟩:=aC h
   cases h
   obtain⟨l,g⟩:=pS e2
   refine⟨by simp[l],fun k r' e=>?_⟩
   cases k with
   | zero=>simp at e;subst e;exact⟨a,rfl,e1⟩
   | succ k=>
     obtain⟨a',h1,h2⟩:=g k r' (by simpa using e)
     exact⟨a',by simpa using h1,h2⟩
theorem ResOks.get{Γ:Gm}{H:Hp}{σ:Sg}{σV:St}:∀ {rs:List Res} {vs:List V},ResOks Γ H σ σV rs vs->rs.length=vs.length/\∀ (k:Nat) r,rs[k]? = some r->∃ v,vs[k]? = some v/\iV Γ H σ σV r v
 | _,_,.nil=>⟨rfl,fun k r e=>by simp at e⟩
 | _,_,.cons h t _=>by
   obtain⟨l,g⟩:=ResOks.get t
   refine⟨by simp[l],fun k r' e=>?_⟩
   cases k with
   | zero=>simp at e;subst e;exact⟨_,rfl,h⟩
   | succ k=>
     obtain⟨a',h1,h2⟩:=g k r' (by simpa using e)
     exact⟨a',by simpa using h1,h2⟩
theorem ResOks.dis{Γ:Gm}{H:Hp}{σ:Sg}{σV:St}:∀ {rs:List Res} {vs:List V},ResOks Γ H σ σV rs vs->∀ (k l:Nat) d d' p,k < l->rs[k]? = some (.own d)->rs[l]? = some (.own d')->vs[k]? = some (.ref p)->vs[l]? ≠ some (.ref p)
 | _,_,.nil,k,l,d,d',p,_,e,_,_=>by simp at e
 | _,_,.cons h t q,k,l,d,d',p,hkl,e,e',ev=>by
   cases l with
   | zero=>omega
   | succ l=>
     cases k with
     | zero=>
       simp at e ev
       subst e ev
       intro z
       exact q d p rfl rfl l d' (by simpa using e') (by simpa using z)
     | succ k=>
       intro z
       exact ResOks.dis t k l d d' p (by omega) (by simpa using e) (by simpa using e') (by simpa using ev) (by simpa using z)
theorem lQ{i:Nat}:∀ {rs:List Res} {k:Nat},rs[k]? = some (.slot i)->aJ8 i rs=true
 | [],_,h=>by simp at h
 | r::rs,0,h=>by simp at h;subst h;simp[aJ8]
 | r::rs,k+1,h=>by
   have:=lQ (rs:=rs) (k:=k) (by simpa using h)
   cases r<;>simp[aJ8,this]
theorem kD:∀ {rs:List Res},dG rs=true->∀ (k l i:Nat),rs[k]? = some (.slot i)->rs[l]? = some (.slot i)->k=l
 | [],_,k,l,i,h,_=>by simp at h
 | r::rs,hn,k,l,i,h,h'=>by
   cases k with
   | zero=>
     cases l with
     | zero=>rfl
     | succ l=>
       simp at h
       subst h
       unfold dG at hn
       rw[Bool.and_eq_true]at hn
       rw[lQ (k:=l) (by simpa using h')]at hn
       simp at hn
   | succ k=>
     cases l with
     | zero=>
       simp at h'
       subst h'
       unfold dG at hn
       rw[Bool.and_eq_true]at hn
       rw[lQ (k:=k) (by simpa using h)]at hn
       simp at hn
     | succ l=>
       have hn':dG rs=true:=by
        cases r with
        | slot j=>unfold dG at hn;rw[Bool.and_eq_true]at hn;exact hn.2
        | val d=>exact hn
        | own d=>exact hn
       exact congrArg Nat.succ (kD hn' k l i (by simpa using h) (by simpa using h'))
theorem eO{j:Nat}:∀ {rs:List Res} {as:List Sl} {a:Sl},hU j rs as=some a->∃ k:Nat,rs[k]? = some (.slot j)/\as[k]? = some a
 | [],_,_,h=>by simp[hU]at h
 | r::rs,[],_,h=>by cases r<;>simp[hU]at h
 | r::rs,a::as,b,h=>by
   cases r with
   | slot i=>
     have h':(if i=j then some a else hU j rs as)=some b:=h
     split at h'
     ·rename_i e;cases h';subst e;exact⟨0,rfl,rfl⟩
     ·obtain⟨k,h1,h2⟩:=eO h'
      exact⟨k+1,by simpa using h1,by simpa using h2⟩
   | val d=>obtain⟨k,h1,h2⟩:=eO (rs:=rs) (as:=as) h;exact⟨k+1,by simpa using h1,by simpa using h2⟩
   | own d=>obtain⟨k,h1,h2⟩:=eO (rs:=rs) (as:=as) h;exact⟨k+1,by simpa using h1,by simpa using h2⟩
noncomputable def jG(rs:List Res)(as:List Sl)(k:Nat)(o:Option Sl):Option Sl:=match o with
 | some s=>(match hU k rs as with
   | some a=>some (if s.m.mt=true then⟨s.m,a.d⟩else s)
   | none=>some s)
 | none=>none
theorem hV{rs:List Res}{as:List Sl}:∀ (k:Nat) (σ:Sg) (j:Nat),(iX rs as k σ)[j]? = (σ[j]?).map (jG rs as (k+j))
 | _,[],_=>by simp[iX]
 | k,o::σ,0=>by cases o<;>simp[iX,jG]
 | k,o::σ,j+1=>by
   have:=hV (rs:=rs) (as:=as) (k+1) σ j
   have e:k+1+j=k+(j+1):=by omega
   rw[e]at this
   cases o<;>simpa[iX]using this
theorem kW{rs:List Res}{as:List Sl}:∀ (k:Nat) (σ:Sg),(iX rs as k σ).length=σ.length
 | _,[]=>rfl
 | k,o::σ=>by cases o<;>simp[iX,kW (k+1) σ]
theorem aN9{Γ:Gm}{n:Nat}{run:Run}{ra:DA}{E:XK}{σV:St}{H:Hp}{Q:VK}(h:dTE Γ (aX n run ra) σV H Q):bF5 (dsp n run) [] E (dTA Γ ra) σV H Q:=by
 obtain⟨σ,ok,res,σ',e,k⟩:=h
 obtain⟨⟨rs,σ1⟩,e1,e⟩:=aC e
 obtain⟨as,e2,e⟩:=aC e
 dsimp only at e
 split at e
 case isFalse=>cases e
 case isTrue hc=>
 obtain⟨⟨r,as'⟩,e3,e⟩:=aC e
 cases e
 dsimp only at e2 hc k
 refine⟨σ,ok,rs,σ1,e1,fun vs H1 ok1 r1 st1 f1=>?_⟩
 show dsp n run (vs++[]) H1 Q E
 rw[List.append_nil]
 obtain⟨la,ga⟩:=pS e2
 obtain⟨lv,gv⟩:=r1.get
 have arg:∀ (i:Nat) a,as[i]? = some a->∃ r v,rs[i]? = some r/\zE σ1 r=some a/\vs[i]? = some v/\iV Γ H1 σ1 σV r v:=fun i a ea=>by
  have hi:i < rs.length:=by rw[← la];exact(List.getElem?_eq_some_iff.mp ea).1
  have er:rs[i]? = some rs[i]:=List.getElem?_eq_getElem hi
  obtain⟨a',h1,h2⟩:=ga i _ er
  rw[ea]at h1;cases h1
  obtain⟨v,h3,h4⟩:=gv i _ er
  exact⟨_,v,er,h2,h3,h4⟩
 have slotArg:∀ i a,zE σ1 (.slot i)=some a->∃ s,σ1[i]? = some (some s)/\a=⟨if s.m.mt=true then .par else s.m,s.d⟩:=fun i a ea=>by
  have ea':(match σ1[i]? with | some (some s)=>some (⟨if s.m.mt=true then .par else s.m,s.d⟩:Sl) | _=>none)=some a:=ea
  split at ea'
  ·rename_i s hs;cases ea';exact⟨s,hs,rfl⟩
  ·cases ea'
 -- an argument that may change: new,or owned here
 have mutArg:∀ a,bM3 as vs a->kB σ1 σV a\/(H a=none/\¬ aM8 σ1 σV a/\Γ.H₀ a=none):=fun a ⟨i,s,ei,m,ev⟩=>by
  obtain⟨r,v,er,ea,ev',rv⟩:=arg i s ei
  rw[ev]at ev';cases ev'
  cases r with
  | val d=>cases ea;cases m
  | own d=>
    obtain⟨p,q1,q2,q3,q4⟩:=rv
    cases q1
    exact .inr ⟨f1 i d a er ev,q3,q4⟩
  | slot j=>
    obtain⟨s',hs,rfl⟩:=slotArg j s ea
    obtain⟨q1,_⟩:=rv
    refine .inl ⟨j,s',hs,?_,q1⟩
    by_cases hm:s'.m.mt=true
    ·exact hm
    ·simp only[hm]at m;exact absurd m hm
 have argok:ArgOk H1 as vs:=by
  refine⟨by rw[la,lv],fun i a ei=>?_,fun i j s t p nij ei ej m m' ev ev'=>?_,fun i a ei=>?_⟩
  ·obtain⟨r,v,er,ea,ev,rv⟩:=arg i a ei
   refine⟨v,ev,?_⟩
   cases r with
   | val d=>cases ea;exact rv
   | own d=>cases ea;obtain⟨p,q1,q2,_⟩:=rv;exact⟨p,q1,q2⟩
   | slot j=>
     obtain⟨s',hs,rfl⟩:=slotArg j a ea
     obtain⟨q1,_⟩:=rv
     obtain⟨v',e4,r4⟩:=ok1.rel j s' hs
     rw[q1]at e4;cases e4
     by_cases hm:s'.m.mt=true
     ·simp only[hm,if_true]
      exact(cP (s:=⟨.par,s'.d⟩) (fun z=>nomatch z)).mpr ((cP (fX hm)).mp r4)
     ·simp only[hm];exact r4
  ·obtain⟨r,v,er,ea,ev1,rv⟩:=arg i s ei
   obtain⟨r2,v2,er2,ea2,ev2,rv2⟩:=arg j t ej
   rw[ev]at ev1;cases ev1
   rw[ev']at ev2;cases ev2
   have nvSlot:∀ l a,zE σ1 (.slot l)=some a->a.m≠.val->∃ s,σ1[l]? = some (some s)/\s.m≠.val/\(a.m.mt=true->s.m.mt=true):=fun l a ea hm=>by
    obtain⟨s',hs,rfl⟩:=slotArg l a ea
    refine⟨s',hs,?_,?_⟩
    ·intro z;simp only[z,Md.mt]at hm;exact hm rfl
    ·intro z
     by_cases hm':s'.m.mt=true
     ·exact hm'
     ·simp only[hm']at z;exact z
   cases r with
   | val d=>cases ea;cases m
   | own d=>
     obtain⟨q,q1,q2,q3,q4⟩:=rv
     cases q1
     cases r2 with
     | val d=>cases ea2;exact m' rfl
     | own d2=>
       rcases Nat.lt_or_gt_of_ne nij with z | z
       ·exact r1.dis i j d d2 p z er er2 ev ev'
       ·exact r1.dis j i d2 d p z er2 er ev' ev
     | slot l=>
       obtain⟨s',hs,hm',_⟩:=nvSlot l t ea2 m'
       exact q3 ⟨l,s',hs,hm',rv2.1⟩
   | slot l=>
     obtain⟨s',hs,hm',hmt⟩:=nvSlot l s ea (fX m)
     cases r2 with
     | val d=>cases ea2;exact m' rfl
     | own d2=>
       obtain⟨q,q1,q2,q3,q4⟩:=rv2
       cases q1
       exact q3 ⟨l,s',hs,hm',rv.1⟩
     | slot l2=>
       obtain⟨s2,hs2,hm2,_⟩:=nvSlot l2 t ea2 m'
       refine ok1.dis l l2 s' s2 p (fun z=>?_) hs hs2 (hmt m) hm2 rv.1 rv2.1
       subst z
       exact nij (kD hc.2 i j l er er2)
  ·obtain⟨r,v,er,ea,ev1,rv⟩:=arg i a ei
   cases r with
   | val d=>cases ea;exact fun z=>nomatch z
   | own d=>cases ea;exact fun z=>nomatch z
   | slot j=>
     obtain⟨s',hs,rfl⟩:=slotArg j a ea
     intro z
     by_cases hm:s'.m.mt=true
     ·simp only[hm,if_true]at z;cases z
     ·simp only[hm]at z
      have z':s'.m=.own:=z
      rw[z']at hm;exact hm rfl
 refine⟨as,r,as',argok,hc.1,e3,fun v H2 po nw=>?_⟩
 have extA:Ext H1 H2:=by
  refine⟨fun p xs h=>po.fr p _ h fun z=>?_,fun p o u h=>po.fr p _ h fun z=>?_⟩
  ·obtain⟨i,s,ei,m,ev⟩:=z
   obtain⟨v,e4,r4⟩:=argok.rel i s ei
   rw[ev]at e4;cases e4
   obtain⟨q,eq,ow⟩:=(cP (fX m)).mp r4
   cases eq
   obtain⟨o,ho,n1,_⟩:=ow.obj
   rw[h]at ho;cases ho;exact n1 _ rfl
  ·obtain⟨i,s,ei,m,ev⟩:=z
   obtain⟨v,e4,r4⟩:=argok.rel i s ei
   rw[ev]at e4;cases e4
   obtain⟨q,eq,ow⟩:=(cP (fX m)).mp r4
   cases eq
   obtain⟨o',ho,_,n1⟩:=ow.obj
   rw[h]at ho;cases ho;exact n1 _ _ rfl
 have back:∀ (j:Nat) t,(iX rs as' 0 σ1)[j]? = some (some t)->∃ s,σ1[j]? = some (some s)/\t.m=s.m/\(t=s\/(s.m.mt=true/\∃ (k:Nat) (a:Sl),rs[k]? = some (.slot j)/\as'[k]? = some a/\t=⟨s.m,a.d⟩)):=fun j t ej=>by
  rw[hV,Nat.zero_add]at ej
  cases q:σ1[j]? with
  | none=>rw[q]at ej;cases ej
  | some o=>
    rw[q]at ej
    cases o with
    | none=>cases ej
    | some s=>
      have ej':jG rs as' j (some s)=some t:=Option.some.inj ej
      unfold jG at ej'
      refine⟨s,rfl,?_⟩
      dsimp only at ej'
      split at ej'
      ·rename_i a ha
       obtain⟨k',h1,h2⟩:=eO ha
       have ej'':=Option.some.inj ej'
       by_cases hm:s.m.mt=true
       ·rw[if_pos hm]at ej''
        subst ej''
        exact⟨rfl,.inr ⟨hm,k',a,h1,h2,rfl⟩⟩
       ·rw[if_neg hm]at ej''
        subst ej''
        exact⟨rfl,.inl rfl⟩
      ·cases ej';exact⟨rfl,.inl rfl⟩
 have fwd:∀ (j:Nat) s,σ1[j]? = some (some s)->∃ t,(iX rs as' 0 σ1)[j]? = some (some t)/\t.m=s.m/\(s.m.mt=false->t=s):=fun j s ej=>by
  rw[hV,Nat.zero_add,ej]
  show ∃ t,some (jG rs as' j (some s))=some (some t)/\_
  unfold jG
  dsimp only
  split
  ·refine⟨_,rfl,?_,fun z=>?_⟩
   ·split<;>rfl
   ·rw[if_neg (by rw[z];exact Bool.false_ne_true)]
  ·exact⟨s,rfl,rfl,fun _=>rfl⟩
 -- a slot that is handed in by no argument that may change
 have quiet:∀ (j:Nat) s t p,σ1[j]? = some (some s)->(iX rs as' 0 σ1)[j]? = some (some t)->t=s->s.m≠.val->σV[j]? = some (some (.ref p))->(∀ k:Nat,s.m.mt=true->rs[k]? ≠ some (.slot j))->¬ bM3 as vs p:=by
  intro j s t p hs _ _ hm ev hno ⟨i,a,ei,m,evi⟩
  obtain⟨r,v,er,ea,ev1,rv⟩:=arg i a ei
  rw[evi]at ev1;cases ev1
  cases r with
  | val d=>cases ea;cases m
  | own d=>
    obtain⟨q,q1,q2,q3,q4⟩:=rv
    cases q1
    exact q3 ⟨j,s,hs,hm,ev⟩
  | slot l=>
    obtain⟨s',hs',rfl⟩:=slotArg l a ea
    have hmt:s'.m.mt=true:=by
     by_cases h':s'.m.mt=true
     ·exact h'
     ·simp only[h']at m;exact absurd m h'
    by_cases z:l=j
    ·subst z
     rw[hs]at hs';cases hs'
     exact hno i hmt er
    ·exact ok1.dis l j s' s p z hs' hs hmt hm rv.1 ev
 have okB:StOk Γ H2 (iX rs as' 0 σ1) σV:=by
  refine⟨fun j t ej=>?_,fun j l t t' q n ej el m m' eq eq'=>?_,fun j t q ej m eq=>?_,fun j t q ej m eq=>?_,fun a o e n=>?_,fun a e=>ok1.dom a (po.dom a e),by rw[kW];exact ok1.len⟩
  ·obtain⟨s,hs,mm,hc'⟩:=back j t ej
   obtain⟨w',ew,rw'⟩:=ok1.rel j s hs
   refine⟨w',ew,?_⟩
   by_cases hslot:s.m.mt=true/\∃ k':Nat,rs[k']? = some (.slot j)
   ·obtain⟨hm,k',hk'⟩:=hslot
    obtain⟨a,ha,hao⟩:=ga k' _ hk'
    obtain⟨v',hv',rv'⟩:=gv k' _ hk'
    have ev':σV[j]? = some (some v'):=rv'.1
    rw[ew]at ev';cases ev'
    obtain⟨s',hs',ea'⟩:=slotArg j a hao
    rw[hs]at hs';cases hs'
    have am:a.m=.par:=by rw[ea',if_pos hm]
    obtain⟨a2,w2,h1,h2,h3,h4⟩:=po.rel k' a ha (by rw[am];rfl)
    rw[hv']at h3;cases h3
    have ht:t=⟨s.m,a2.d⟩:=by
     rw[hV,Nat.zero_add,hs]at ej
     have ej':jG rs as' j (some s)=some t:=Option.some.inj ej
     unfold jG at ej'
     dsimp only at ej'
     split at ej'
     ·rename_i b hb
      obtain⟨k2,q1,q2⟩:=eO hb
      obtain rfl:=kD hc.2 k2 k' j q1 hk'
      rw[h1]at q2;cases q2
      have:=Option.some.inj ej'
      rw[if_pos hm]at this
      exact this.symm
     ·rename_i hb
      -- no argument at all: the lists part in length
      exfalso
      have:∀ {rs:List Res} {as:List Sl} {kk:Nat} {a:Sl},rs[kk]? = some (.slot j)->as[kk]? = some a->hU j rs as≠none:=by
       intro rs
       induction rs with
       | nil=>intro as kk a h;simp at h
       | cons r rs ih=>
         intro as kk a h h'
         cases as with
         | nil=>simp at h'
         | cons b as=>
           cases kk with
           | zero=>simp at h;subst h;simp[hU]
           | succ kk=>
             have:=ih (as:=as) (kk:=kk) (a:=a) (by simpa using h) (by simpa using h')
             cases r with
             | slot i=>simp only[hU];split;exact fun z=>nomatch z;exact this
             | val d=>exact this
             | own d=>exact this
      exact this hk' h1 hb
    subst ht
    have h5:=(cP (s:=a2) (by rw[h2,am];exact fun z=>nomatch z)).mp h4
    exact(cP (s:=⟨s.m,a2.d⟩) (fX hm)).mpr h5
   ·have ht:t=s:=by
     rcases hc' with h | ⟨hm,k',a,h1,_⟩
     ·exact h
     ·exact absurd ⟨hm,k',h1⟩ hslot
    rw[ht]
    refine rw'.mono extA fun p o ep m hp=>po.fr p o hp ?_
    exact quiet j s t p hs ej ht m (by rw[ew,ep]) fun k' hm hk=>hslot ⟨hm,k',hk⟩
  ·obtain⟨s,hs,mm,_⟩:=back j t ej
   obtain⟨s',hs',mm',_⟩:=back l t' el
   exact ok1.dis j l s s' q n hs hs' (by rw[← mm];exact m) (by rw[← mm'];exact m') eq eq'
  ·obtain⟨s,hs,mm,_⟩:=back j t ej
   exact ok1.own j s q hs (mm.symm.trans m) eq
  ·obtain⟨s,hs,mm,_⟩:=back j t ej
   exact ok1.par j s q hs (mm.symm.trans m) eq
  ·refine po.fr a o (ok1.keep a o e n) fun z=>?_
   rcases mutArg a z with⟨j,s,hs,m,ev⟩ | ⟨_,_,z0⟩
   ·cases hq:s.m with
    | own=>rw[ok1.own j s a hs hq ev]at e;cases e
    | par=>exact n (ok1.par j s a hs hq ev)
    | val=>rw[hq]at m;cases m
    | lent=>rw[hq]at m;cases m
   ·rw[z0]at e;cases e
 have stB:Step σ σV H (iX rs as' 0 σ1) σV H2:=by
  refine⟨fun a o e n=>?_,fun a e=>st1.dom a (po.dom a e),fun a ⟨j,t,ej,m,ea⟩=>?_,fun a ⟨j,t,ej,m,ea⟩=>?_,fun j t ej=>?_,fun j t ej m=>?_,fun j t ej m=>?_⟩
  ·refine po.fr a o (st1.fr a o e n) fun z=>?_
   rcases mutArg a z with y | ⟨y,_⟩
   ·rcases st1.mu a y with y | y
    ·exact n y
    ·rw[e]at y;cases y
   ·rw[e]at y;cases y
  ·obtain⟨s,hs,mm,_⟩:=back j t ej
   exact st1.mu a ⟨j,s,hs,by rw[← mm];exact m,ea⟩
  ·obtain⟨s,hs,mm,_⟩:=back j t ej
   exact st1.nv a ⟨j,s,hs,by rw[← mm];exact m,ea⟩
  ·obtain⟨s,hs⟩:=st1.kp j t ej
   obtain⟨t',h1,_⟩:=fwd j s hs
   exact⟨t',h1⟩
  ·obtain⟨s,hs,q1,q2,q3⟩:=st1.fix j t ej m
   obtain⟨t',h1,h2,h3⟩:=fwd j s hs
   refine⟨t',h1,h2.trans q1,fun z=>?_,q3⟩
   rw[h3 (by rw[q1,z];rfl)];exact q2 z
  ·obtain⟨s,hs,mm,_⟩:=back j t ej
   exact st1.lt j s hs (mm.symm.trans m)
 refine k v H2 okB ?_ stB (nw.frh.back st1)
 cases r with
 | val d=>exact nw
 | own d=>
   obtain⟨p,q1,q2,q3⟩:=nw
   refine⟨p,q1,q3,fun⟨j,t,ej,m,ea⟩=>?_,ok1.dom p q2⟩
   obtain⟨s,hs,mm,_⟩:=back j t ej
   obtain⟨o,ho,_⟩:=ok1.mutObj ⟨j,s,hs,by rw[← mm];exact m,ea⟩
   rw[q2]at ho;cases ho
 | slot i=>exact nw.elim
theorem aL{X:Cx}{e:Expr}{n:Nat}{run:Run}{ra:DA}{E:XK}(h:∀ Γ,PE X e (bF5 (dsp n run) [] E (dTA Γ ra))):GE X e (aX n run ra):=.mk fun Γ=>peW (h Γ) fun _ _ _=>aN9
end Dv
namespace Dv
open PySem L2
section
variable{X:Cx}
noncomputable def pF(i j:Int):Prop:=bQ3 i j\/(PySem.Builtin.Int.intBits i<=2 ^ 20/\PySem.Builtin.Int.intBits j<=2 ^ 20)
theorem pF.ok{i j:Int}(h:pF i j):IntMulOk i j:=by
 rcases h with h | h
 ·exact h.ok
 ·exact IntMulOk.of_bits h.1 h.2
theorem bI4:OpR X (binaryOp .Mult) (rI pF fun i j=>.int (i*j)):=opI fun _ _ _ _ _ _ _ hc q=>PyProof.Rows.mul_int q hc.ok
end
noncomputable section
open Classical
noncomputable def ii(f:Int->Int->D):F2:=fun d e=>match d,e with
 | .int i,.int j=>some (.val (f i j))
 | _,_=>none
noncomputable def iiC(C:Int->Int->Prop)(f:Int->Int->D):F2:=fun d e=>match d,e with
 | .int i,.int j=>if C i j then some (.val (f i j))else none
 | _,_=>none
noncomputable def iu(f:Int->D):F1:=fun d=>match d with
 | .int i=>some (.val (f i))
 | _=>none
end
theorem bD0{g:Int->Int->V}{f:Int->Int->D}(h:∀ H i j,Rp H (f i j) (g i j)):rZ (rI0 g) (ii f):=by
 intro H d1 d2 x y Q res v1 v2 e k
 unfold ii at e
 split at e
 ·cases e
  obtain rfl:=cX v1
  obtain rfl:=cX v2
  exact⟨_,_,rfl,rfl,k _ H (.refl _) (h H _ _)⟩
 ·cases e
theorem zF{C:Int->Int->Prop}{g:Int->Int->V}{f:Int->Int->D}(h:∀ H i j,Rp H (f i j) (g i j)):rZ (rI C g) (iiC C f):=by
 intro H d1 d2 x y Q res v1 v2 e k
 unfold iiC at e
 split at e
 ·split at e
  ·rename_i hc
   cases e
   obtain rfl:=cX v1
   obtain rfl:=cX v2
   exact⟨_,_,rfl,rfl,hc,k _ H (.refl _) (h H _ _)⟩
  ·cases e
 ·cases e
noncomputable def cH9:F2:=ii fun i j=>.int (i-j)
noncomputable def aJ9:F2:=iiC (fun _ j=>0 < j) fun i j=>.int (i % j)
noncomputable def cC0:F2:=iiC bL7 fun i j=>.int (i ^ j.toNat)
noncomputable def ltI:F2:=ii fun i j=>.bl (decide (i < j))
noncomputable def leI:F2:=ii fun i j=>.bl (decide (i<=j))
noncomputable def gtI:F2:=ii fun i j=>.bl (decide (j < i))
noncomputable def geI:F2:=ii fun i j=>.bl (decide (j<=i))
noncomputable def cI0:F1:=iu fun i=>.int (-i)
theorem fG:rZ (rI (fun _ j=>0 < j) fun i j=>.int (i % j)) aJ9:=zF fun _ _ _=>.int _
theorem bI5:rZ (rI bL7 fun i j=>.int (i ^ j.toNat)) cC0:=zF fun _ _ _=>.int _
theorem kH:rZ (rI0 fun i j=>.bl (decide (j < i))) gtI:=bD0 fun _ _ _=>.bl _
theorem bI6:rZ (rI0 fun i j=>.bl (decide (j<=i))) geI:=bD0 fun _ _ _=>.bl _
section
variable{X:Cx}{pins:List (Addr×Obj)}{σ:St}{H:Hp}{s:Shared}{l:Addr}{xs:List V}
theorem aC6(I:Inv X pins σ H s)(h:fA H l=some (true,xs)):xs.length<=sizeLine/\∃ (its:List Value) (n:Nat),bL xs its/\xs.length=its.length/\s.heap.get? l=some {cls:=.type "list",data:=.seq its.toArray n}:=by
 unfold fA at h
 split at h
 ·rename_i e
  cases h
  exact I.lstM e
 ·cases h
 ·rename_i o ys e
  cases h
  obtain⟨_,z,its,n,r,e⟩:=I.hok l _ e
  exact⟨z,its,n,r,r.length,e⟩
 ·cases h
end
noncomputable def bT5:R2:=fun x y H Q=>∃ l b xs zs,x=.ref l/\y=.ref b/\fA H l=some (true,xs)/\fA H b=some (true,zs)/\xs.length+zs.length<=sizeLine/\∀ p,H p=none->Q (.ref p) (upd H p (.lst (xs++zs)))
theorem bI7{X:Cx}:OpR X (binaryOp .Add) bT5:=by
 intro pins s σ H x y v u Q I rx ry h
 obtain⟨l,b,xs,zs,rfl,rfl,hH,hB,hz,q⟩:=h
 cases rx
 cases ry
 obtain⟨z,its,n,r,hl,e⟩:=aC6 I hH
 obtain⟨z2,its2,n2,r2,hl2,e2⟩:=aC6 I hB
 refine PySem.P.add_list e e2 ?_ (by rw[List.size_toArray,List.size_toArray];omega)
 have ea:its.toArray++its2.toArray=(its++its2).toArray:=by simp
 rw[ea]
 exact⟨.ref _,_,I.lnew (t':=s.toks) (r.append r2) (by rw[List.length_append];omega),rfl,q _ I.fresh⟩
noncomputable def bT6:R2:=fun x y H Q=>bH6 x y H Q\/bT5 x y H Q
theorem bG{X:Cx}:OpR X (binaryOp .Add) bT6:=bS5.or bI7
noncomputable def iM:F2:=fun d e=>match d,e with
 | .int i,.int j=>some (.val (.int (i+j)))
 | .str a,.str b=>if a.length+b.length<=sizeLine then some (.val (.str (a++b)))else none
 | .lst l,.lst m=>if l.length+m.length<=sizeLine then some (.own (.lst (l++m)))else none
 | .tup l,.tup m=>if l.length+m.length<=sizeLine then some (.val (.tup (l++m)))else none
 | _,_=>none
theorem qT{H:Hp}{p:Addr}{xs:List V}{l:List D}(hp:H p=none)(r:Rps H l xs):aH5 H (upd H p (.lst xs)) (.own (.lst l)) (.ref p):=⟨p,rfl,hp,xs,aT,r.mono (.same (bS hp))⟩
theorem zG{H:Hp}{p:Addr}{xs:List V}{l:List D}(hp:H p=none)(r:Rps H l xs):aH5 H (upd H p (.tup xs)) (.val (.tup l)) (.ref p):=.tup aT (r.mono (.same (bS hp)))
theorem bH:rZ bT6 iM:=by
 intro H d1 d2 x y Q res v1 v2 e k
 unfold iM at e
 split at e
 ·cases e
  obtain rfl:=cX v1
  obtain rfl:=cX v2
  exact .inl (k _ H (.refl _) (.int _))
 ·split at e
  ·rename_i hl
   cases e
   obtain rfl:=gW v1
   obtain rfl:=gW v2
   exact .inl ⟨hl,k _ H (.refl _) (.str _)⟩
  ·cases e
 ·split at e
  ·rename_i l m hl
   cases e
   obtain⟨p,xs,rfl,h1,r1⟩:=gU v1
   obtain⟨q,ys,rfl,h2,r2⟩:=gU v2
   have:=r1.length
   have:=r2.length
   exact .inr ⟨p,q,xs,ys,rfl,rfl,h1,h2,by omega,fun r hr=>k _ _ (bS hr) (qT hr (r1.append r2))⟩
  ·cases e
 ·split at e
  ·rename_i l m hl
   cases e
   obtain⟨p,xs,rfl,h1,r1⟩:=eG v1
   obtain⟨q,ys,rfl,h2,r2⟩:=eG v2
   have e1:=r1.length
   have e2:=r2.length
   refine .inl (.inr ⟨xs,ys,cN h1,cN h2,by omega,fun hx=>?_,fun hx hy=>?_,fun hx hy r hr=>k _ _ (bS hr) (zG hr (r1.append r2))⟩)
   ·subst hx
    have:l=[]:=List.eq_nil_of_length_eq_zero e1
    subst this
    exact k _ H (.refl _) (.tup h2 r2)
   ·subst hy
    have:m=[]:=List.eq_nil_of_length_eq_zero e2
    subst this
    rw[List.append_nil]at k
    exact k _ H (.refl _) (.tup h1 r1)
  ·cases e
 ·cases e
noncomputable section
open Classical
noncomputable def zH:F2:=fun d e=>match d,e with
 | .int i,.int j=>if pF i j then some (.val (.int (i*j)))else none
 | .str z,.int i=>if z.length<=1000/\0<=i/\i<=1000 then some (.val (.str (PySem.Txt.mul z i)))else none
 | _,_=>none
end
noncomputable def bT7:R2:=fun x y H Q=>rI pF (fun i j=>.int (i*j)) x y H Q\/bH3 x y H Q
theorem fH{X:Cx}:OpR X (binaryOp .Mult) bT7:=bI4.or bS4
theorem fJ:rZ bT7 zH:=by
 intro H d1 d2 x y Q res v1 v2 e k
 unfold zH at e
 split at e
 ·split at e
  ·rename_i hc
   cases e
   obtain rfl:=cX v1
   obtain rfl:=cX v2
   exact .inl ⟨_,_,rfl,rfl,hc,k _ H (.refl _) (.int _)⟩
  ·cases e
 ·split at e
  ·rename_i hc
   cases e
   obtain rfl:=gW v1
   obtain rfl:=cX v2
   exact .inr ⟨hc.1,hc.2.1,hc.2.2,fun y _ e=>by subst e;exact k _ H (.refl _) (.str _)⟩
  ·cases e
 ·cases e
noncomputable def ixD:F2:=fun d e=>match d,e with
 | .lst l,.int i=>(atI l i).map .val
 | .tup l,.int i=>(atI l i).map .val
 | .str z,.int i=>if z.length<=sizeLine then(atI z.cps.toList i).map fun c=>.val (.str ⟨#[c]⟩)else none
 | _,_=>none
theorem Rps.atI{H:Hp}{l:List D}{xs:List V}{i:Int}{d:D}(r:Rps H l xs)(h:L2.atI l i=some d):∃ x,L2.atI xs i=some x/\Rp H d x:=by
 unfold L2.atI at h ⊢
 obtain⟨j,e1,e2⟩:=aC h
 rw[← r.length,e1]
 exact r.get e2
theorem bT8:rZ cE0 ixD:=by
 intro H d1 d2 x y Q res v1 v2 e k
 unfold ixD at e
 split at e
 ·obtain rfl:=cX v2
  obtain⟨p,xs,rfl,h1,r1⟩:=gU v1
  obtain⟨d,e1,e2⟩:=Option.map_eq_some_iff.mp e
  cases e2
  obtain⟨x,e3,r⟩:=r1.atI e1
  exact⟨x,aM4 h1 e3,k _ H (.refl _) r⟩
 ·obtain rfl:=cX v2
  obtain⟨p,xs,rfl,h1,r1⟩:=eG v1
  obtain⟨d,e1,e2⟩:=Option.map_eq_some_iff.mp e
  cases e2
  obtain⟨x,e3,r⟩:=r1.atI e1
  exact⟨x,aM4 (cN h1) e3,k _ H (.refl _) r⟩
 ·split at e
  ·rename_i hz
   obtain rfl:=cX v2
   obtain rfl:=gW v1
   obtain⟨c,e1,e2⟩:=Option.map_eq_some_iff.mp e
   cases e2
   exact⟨_,bH0 hz e1,k _ H (.refl _) (.str _)⟩
  ·cases e
 ·cases e
theorem cM{X:Cx}{a b:Expr}{ra rb:DE}{pos:Pos}(ha:GE X a ra)(hb:GE X b rb)(hs:aL8 b):GE X (.Subscript a b pos) (aZ ixD ra rb):=.mk fun Γ=>peW (cB0 cH7 (ha.to Γ) (hb.to Γ) hs) fun _ _ _=>lM bT8
noncomputable def pT:FN:=fun ds=>match ds with
 | [.lst l]=>some (.val (.int l.length))
 | [.tup l]=>some (.val (.int l.length))
 | [.str z]=>if z.length<=sizeLine then some (.val (.int z.length))else none
 | _=>none
theorem aU8{H:Hp}{d:D}{vs:List V}(h:Vws H [d] vs):∃ x,vs=[x]/\Vw H d x:=by
 cases h with
 | cons a t=>cases t;exact⟨_,rfl,a⟩
theorem cZ:aY1 bS1 pT:=by
 intro H ds vs Q res vw e k
 unfold pT at e
 split at e
 ·cases e
  obtain⟨x,rfl,v⟩:=aU8 vw
  obtain⟨p,xs,rfl,h1,r1⟩:=gU v
  refine⟨_,_,rfl,aB1 h1,?_⟩
  rw[← r1.length]
  exact k _ H (.refl _) (.int _)
 ·cases e
  obtain⟨x,rfl,v⟩:=aU8 vw
  obtain⟨p,xs,rfl,h1,r1⟩:=eG v
  refine⟨_,_,rfl,aB1 (cN h1),?_⟩
  rw[← r1.length]
  exact k _ H (.refl _) (.int _)
 ·split at e
  ·rename_i hz
   cases e
   obtain⟨x,rfl,v⟩:=aU8 vw
   obtain rfl:=gW v
   exact⟨_,_,rfl,aX2 hz,k _ H (.refl _) (.int _)⟩
  ·cases e
 ·cases e
noncomputable def aU9(l:List D)(lo hi:Option Int):List D:=(l.drop (HT.sIx l.length 0 lo)).take (HT.sIx l.length l.length hi-HT.sIx l.length 0 lo)
theorem Rps.cut{H:Hp}{l:List D}{xs:List V}(r:Rps H l xs)(lo hi:Option Int):Rps H (aU9 l lo hi) (yL xs lo hi):=by
 unfold aU9 yL
 rw[r.length]
 exact(r.drop _).take _
theorem aO0{xs:List V}{lo hi:Option Int}(h:HT.sIx xs.length 0 lo=0/\HT.sIx xs.length xs.length hi=xs.length):yL xs lo hi=xs:=by
 unfold yL
 rw[h.1,h.2]
 simp
end Dv
namespace HT
open PySem PySem.Spec PyProof.Rows
section
variable{prog:Program}{w:World}{A:Around}{E:Value->Shared->Prop}{s:Shared}
theorem getItem_tuple_all{t sl:Addr}{items:Array Value}{vl vu:Value}{lo hi:Option Int}{Q:Value->Shared->Prop}(ht:IsTup s.heap t items)(hs:s.heap.IsSliceOf sl vl vu .none)(pl:IsPart vl lo)(pu:IsPart vu hi)
  (hw:sIx items.size 0 lo=0/\sIx items.size items.size hi=items.size) (h:Q (.ref t) s):wpAny (model prog w) A (getItem (.ref t) (.ref sl)) Q E s:=by
 obtain⟨os,hos,hcs,hds⟩:=id hs
 have hTs:s.TypeIs (.ref sl) "slice":=⟨os,hos,hcs⟩
 unfold getItem
 try with_reducible refine wpAny_holding ?_
 first | refine wpAny_bind (wpAny_pure ?_) | skip
 refine wpAny_bind (wpAny_sequenceKey ht.typeIs (by decide) ?_)
 refine wpAny_bind (wpAny_callSpecial?_slot (name:=Str.ofString "__getitem__") ht.typeIs PyProof.Rows.slot_tuple_getitem
  (wpAny_call_entry PyProof.Rows.slot_tuple_getitem ht.typeIs entry_tuple_getitem ?_ (args_tuple_getitem _ _)))
 show wpAny _ _ (Builtin.Tuple.tupleItemsOf (.ref t) >>= _) _ _ s
 refine wpAny_bind (tupleItemsOf_ ht ?_)
 refine wpAny_bind (wpAny_typeOf hTs ?_)
 rw[if_pos (by decide)]
 refine wpAny_bind (gH hs pl pu ?_)
 have hyes:(((sIx items.size 0 lo:Nat):Int)==0&&(1:Int)==1&&(sIx items.size items.size hi-sIx items.size 0 lo)==items.size)=true:=by
  rw[hw.1,hw.2];simp
 show wpAny _ _ (if(((sIx items.size 0 lo:Nat):Int)==0&&(1:Int)==1&&(sIx items.size items.size hi-sIx items.size 0 lo)==items.size)=true then _ else _) _ _ s
 rw[if_pos hyes]
 refine wpAny_bind ?_
 unfold Builtin.Tuple.tupleIsExact
 refine wpAny_bind (wpAny_typeOf ht.typeIs (wpAny_pure ?_))
 rw[if_pos (by decide)]
 refine wpAny_bind (wpAny_rule ?_)
 exact wpAny_pure ⟨_,rfl,wpAny_pure h⟩
end
end HT
namespace Dv
open PySem L2
noncomputable def cE8:V->Option Int->Option Int->Hp->VK->Prop:=fun x lo hi H Q=>match x with
 | .str z=>z.length<=sizeLine/\Q (.str (PySem.Txt.slice z lo hi)) H
 | .ref p=>(∃ xs,fA H p=some (true,xs)/\∀ r,H r=none->Q (.ref r) (upd H r (.lst (yL xs lo hi)))) \/
   ∃ xs,fA H p=some (false,xs)/\(yL xs lo hi=xs->Q (.ref p) H)/\∀ r,H r=none->Q (.ref r) (upd H r (.tup (yL xs lo hi)))
 | _=>False
theorem cI1{X:Cx}:SlR X cE8:=by
 intro pins s σ H x v vl vu lo hi sl Q I rx hs pl pu h
 unfold cE8 at h
 split at h
 ·rename_i z
  exact cB3 pins s σ H _ v vl vu lo hi sl Q I rx hs pl pu h
 ·rename_i p
  rcases h with h | ⟨xs,hq,q1,q2⟩
  ·exact cB3 pins s σ H _ v vl vu lo hi sl Q I rx hs pl pu (.inl h)
  ·by_cases hw:HT.sIx xs.length 0 lo=0/\HT.sIx xs.length xs.length hi=xs.length
   ·cases rx
    obtain⟨its,r,ht,hz⟩:=I.tuple (eP hq)
    have hlen:its.toArray.size=xs.length:=by rw[List.size_toArray];exact r.length.symm
    refine⟨"tuple",_,PyProof.Rows.slot_tuple_getitem.lookup,ht.typeIs,?_⟩
    exact HT.getItem_tuple_all ht hs pl pu (by rw[hlen];exact hw) ⟨.ref p,H,I,rfl,q1 (aO0 hw)⟩
   ·exact cB3 pins s σ H _ v vl vu lo hi sl Q I rx hs pl pu (.inr ⟨xs,hq,hw,q2⟩)
 ·exact h.elim
noncomputable abbrev DO:=Sg->Option (Option Int×Sg)
noncomputable def dTO(Γ:Gm)(r:DO):TO:=fun σV H Q=>∃ σ,StOk Γ H σ σV/\∃ o σ',r σ=some (o,σ')/\∀ H',StOk Γ H' σ' σV->Step σ σV H σ' σV H'->Q o H'
structure GO(X:Cx)(e:Option Expr)(r:DO):Prop where
 to:∀ Γ,PO X e (dTO Γ r)
theorem poW{X:Cx}{e:Option Expr}{t t':TO}(h:PO X e t)(w:∀ σ H Q,t' σ H Q->t σ H Q):PO X e t':=fun pins s σ H Q I q=>h pins s σ H Q I (w σ H Q q)
noncomputable def aH9:DO:=fun σ=>some (none,σ)
noncomputable def dP(r:DE):DO:=fun σ=>(r σ).bind fun x=>(rd x.2 x.1).bind fun d=>match d with
 | .int i=>some (some i,x.2)
 | _=>none
theorem fZ{X:Cx}:GO X none aH9:=.mk fun Γ=>poW bF7 fun σV H Q ⟨σ,ok,o,σ',e,k⟩=>by cases e;exact k H ok .refl
theorem gB{X:Cx}{e:Expr}{r:DE}(h:GE X e r):GO X (some e) (dP r):=.mk fun Γ=>poW (bF8 (h.to Γ)) fun σV H Q ⟨σ,ok,o,σ',e,k⟩=>by
 obtain⟨⟨x,σ1⟩,e1,e⟩:=aC e
 obtain⟨d,e2,e⟩:=aC e
 dsimp only at e
 split at e
 ·cases e
  exact⟨σ,ok,x,_,e1,fun v H1 ok1 r1 st1 _=>⟨_,cX (r1.vw ok1 e2),k H1 ok1 st1⟩⟩
 ·cases e
noncomputable def slD(d:D)(lo hi:Option Int):Option Res:=match d with
 | .str z=>if z.length<=sizeLine then some (.val (.str (PySem.Txt.slice z lo hi)))else none
 | .lst l=>some (.own (.lst (aU9 l lo hi)))
 | .tup l=>some (.val (.tup (aU9 l lo hi)))
 | _=>none
noncomputable def dSl(r:DE)(a b:DO):DE:=fun σ=>(r σ).bind fun x=>(a x.2).bind fun y=>(b y.2).bind fun z=>(rd z.2 x.1).bind fun d=>(slD d y.1 z.1).bind fun w=>some (w,z.2)
theorem eK{X:Cx}{e:Expr}{lo hi:Option Expr}{p2 pos:Pos}{r:DE}{a b:DO}(he:GE X e r)(ha:GO X lo a)(hb:GO X hi b):GE X (.Subscript e (.Slice lo hi none p2) pos) (dSl r a b):=.mk fun Γ=>peW (aV9 cI1 (he.to Γ) (ha.to Γ) (hb.to Γ)) fun σV H Q ⟨σ,ok,res,σ',e,k⟩=>by
 obtain⟨⟨x,σ1⟩,e1,e⟩:=aC e
 obtain⟨⟨lo,σ2⟩,e2,e⟩:=aC e
 obtain⟨⟨hi,σ3⟩,e3,e⟩:=aC e
 obtain⟨d,e4,e⟩:=aC e
 obtain⟨w,e5,e⟩:=aC e
 cases e
 refine⟨σ,ok,x,σ1,e1,fun v H1 ok1 r1 st1 _=>⟨σ1,ok1,lo,σ2,e2,fun H2 ok2 st2=>⟨σ2,ok2,hi,σ3,e3,fun H3 ok3 st3=>?_⟩⟩⟩
 have vw:=((r1.step ok1 st2).step ok2 st3).vw ok3 e4
 have fin:∀ v H',Same H3 H'->aH5 H3 H' res v->Q v H':=fun v H' sm nw=>k v H' (ok3.same sm) (nw.res ok3) (((st1.trans st2).trans st3).trans (.same sm)) (nw.frh.back ((st1.trans st2).trans st3))
 dsimp only at e5
 unfold slD at e5
 split at e5
 ·split at e5
  ·rename_i hz
   cases e5
   obtain rfl:=gW vw
   exact⟨hz,fin _ H3 (.refl _) (.str _)⟩
  ·cases e5
 ·cases e5
  obtain⟨p,xs,rfl,h1,r2⟩:=gU vw
  exact .inl ⟨xs,h1,fun q hq=>fin _ _ (bS hq) (qT hq (r2.cut lo hi))⟩
 ·cases e5
  obtain⟨p,xs,rfl,h1,r2⟩:=eG vw
  refine .inr ⟨xs,cN h1,fun hw=>fin _ H3 (.refl _) ?_,fun q hq=>fin _ _ (bS hq) (zG hq (r2.cut lo hi))⟩
  have:=r2.cut lo hi
  rw[hw]at this
  exact .tup h1 this
 ·cases e5
noncomputable def bT9(K:PySem.W.Frag):List V->Hp->VK->Prop:=fun xs H Q=>∃ (a:Addr) (bs:List Bool),xs=[.ref a]/\SqL K H a (bs.map V.bl)/\Q (.bl (bs.all id)) H
noncomputable def aI0:List D->Option (List Bool)
 | []=>some []
 | .bl b::r=>(aI0 r).bind fun bs=>some (b::bs)
 | _=>none
theorem aC7:∀ {l:List D} {bs:List Bool},aI0 l=some bs->l=bs.map D.bl
 | [],_,h=>by cases h;rfl
 | .bl b::r,_,h=>by
   obtain⟨bs,e1,e⟩:=aC h
   cases e
   rw[aC7 e1];rfl
 | .non::_,_,h=>by cases h
 | .int _::_,_,h=>by cases h
 | .str _::_,_,h=>by cases h
 | .tup _::_,_,h=>by cases h
 | .lst _::_,_,h=>by cases h
 | .dic _ _::_,_,h=>by cases h
theorem aO1(bs:List Bool):aI0 (bs.map D.bl)=some bs:=by
 induction bs with
 | nil=>rfl
 | cons b r ih=>show(aI0 (r.map D.bl)).bind _=_;rw[ih];rfl
noncomputable def bU0:FN:=fun ds=>match ds with
 | [.lst l]=>(aI0 l).map fun bs=>.val (.bl (bs.all id))
 | _=>none
theorem aO2{K:PySem.W.Frag}:aY1 (bT9 K) bU0:=by
 intro H ds vs Q res vw e k
 unfold bU0 at e
 split at e
 ·obtain⟨bs,e1,e2⟩:=Option.map_eq_some_iff.mp e
  cases e2
  obtain⟨x,rfl,v⟩:=aU8 vw
  obtain⟨p,xs,rfl,h1,r1⟩:=gU v
  rw[aC7 e1]at r1
  rw[r1.bls_inv]at h1
  exact⟨p,bs,rfl,iO h1,k _ H (.refl _) (.bl _)⟩
 ·cases e
theorem sF{X:Cx}(K:PySem.W.Frag)(hK:X.K=K)(hc:X.calm=true):gN X (.builtin "all") (bT9 K):=by rw[← hK];exact aW5 hc
noncomputable def cC1:FN:=fun ds=>match ds with
 | [.int i,.int j]=>some (.val (.int (if j > i then j else i)))
 | _=>none
noncomputable def cC2:FN:=fun ds=>match ds with
 | [.int i,.int j]=>some (.val (.int (if j < i then j else i)))
 | _=>none
noncomputable def bM4:FN:=fun ds=>match ds with
 | [.int i]=>some (.val (.int i))
 | [.bl b]=>some (.val (.int (if b then 1 else 0)))
 | _=>none
theorem aO3:aY1 (fun xs H Q=>(∃ i,xs=[.int i]/\Q (.int i) H)\/∃ k,xs=[.bl k]/\Q (.int (if k then 1 else 0)) H) bM4:=by
 intro H ds vs Q res vw e k
 unfold bM4 at e
 split at e
 ·cases e
  obtain⟨x,rfl,a⟩:=aU8 vw
  obtain rfl:=cX a
  exact .inl ⟨_,rfl,k _ H (.refl _) (.int _)⟩
 ·cases e
  obtain⟨x,rfl,a⟩:=aU8 vw
  obtain rfl:=aN0 a
  exact .inr ⟨_,rfl,k _ H (.refl _) (.int _)⟩
 ·cases e
noncomputable def qU:FN:=fun ds=>match ds with
 | [.lst l]=>some (.own (.lst l))
 | [.tup l]=>some (.own (.lst l))
 | _=>none
theorem qV:aY1 bC4 qU:=by
 intro H ds vs Q res vw e k
 unfold qU at e
 split at e
 ·cases e
  obtain⟨x,rfl,a⟩:=aU8 vw
  obtain⟨p,xs,rfl,h1,r1⟩:=gU a
  exact⟨p,true,xs,rfl,h1,fun q hq=>k _ _ (bS hq) (qT hq r1)⟩
 ·cases e
  obtain⟨x,rfl,a⟩:=aU8 vw
  obtain⟨p,xs,rfl,h1,r1⟩:=eG a
  exact⟨p,false,xs,rfl,cN h1,fun q hq=>k _ _ (bS hq) (qT hq r1)⟩
 ·cases e
noncomputable def sG:FN:=fun ds=>match ds with
 | [.lst l]=>some (.val (.tup l))
 | [.tup l]=>some (.val (.tup l))
 | _=>none
theorem eF:aY1 bS3 sG:=by
 intro H ds vs Q res vw e k
 unfold sG at e
 split at e
 ·cases e
  obtain⟨x,rfl,a⟩:=aU8 vw
  obtain⟨p,xs,rfl,h1,r1⟩:=gU a
  exact⟨p,true,xs,rfl,h1,fun q hq=>k _ _ (bS hq) (zG hq r1)⟩
 ·cases e
  obtain⟨x,rfl,a⟩:=aU8 vw
  obtain⟨p,xs,rfl,h1,r1⟩:=eG a
  exact⟨p,false,xs,rfl,cN h1,k _ H (.refl _) (.tup h1 r1)⟩
 ·cases e
noncomputable def cC3:D->String
 | .non=>"NoneType"
 | .bl _=>"bool"
 | .int _=>"int"
 | .str _=>"str"
 | .lst _=>"list"
 | .tup _=>"tuple"
 | .dic _ _=>"dict"
noncomputable def aK0(c:String):F1:=fun d=>match d with
 | .dic _ _=>none
 | d=>some (.val (.bl (kA (cC3 d) c)))
noncomputable def cI2:F1:=iu fun i=>.int (PySem.Builtin.Int.intBits i)
noncomputable def bM5:FM:=fun d ds=>match d,ds with
 | .lst l,[e]=>if l.length < sizeLine then some (.lst (l++[e]),.non)else none
 | _,_=>none
theorem mE{H:Hp}{l:List D}{p:Addr}(h:cW H (.lst l) p):∃ xs,H p=some (.lst xs)/\Rps H l xs:=h
theorem zI:cB7 aL9 bM5:=by
 intro H d p ds vs Q d' e ow r eq k
 unfold bM5 at eq
 split at eq
 ·split at eq
  ·rename_i l x hl
   cases eq
   obtain⟨xs,h1,h2⟩:=mE ow
   cases r with
   | cons a t=>
     cases t
     exact⟨p,xs,_,rfl,rfl,h1,by rw[← h2.length];exact hl,k _ _ ⟨_,aT,(h2.append (.cons a .nil)).mono (cW.ext ow)⟩ .non⟩
  ·cases eq
 ·cases eq
theorem Rps.dropLast{H:Hp}{l:List D}{xs:List V}(r:Rps H l xs):Rps H l.dropLast xs.dropLast:=by
 rw[List.dropLast_eq_take,List.dropLast_eq_take,r.length];exact r.take _
noncomputable def sH:FM:=fun d ds=>match d,ds with
 | .lst l,[.int i]=>if -(2 ^ 63)<=i/\i < 2 ^ 63 then(ixN l.length i).bind fun j=>(l[j]?).map fun y=>(.lst (l.eraseIdx j),y)else none
 | _,_=>none
theorem aO4:cB7 bC0 sH:=by
 intro H d p ds vs Q d' e ow r eq k
 unfold sH at eq
 split at eq
 ·split at eq
  ·rename_i l i hi
   obtain⟨j,e0,eq⟩:=aC eq
   obtain⟨y,e1,e2⟩:=Option.map_eq_some_iff.mp eq
   cases e2
   obtain⟨xs,h1,h2⟩:=mE ow
   obtain⟨x,ex,rx⟩:=h2.get e1
   cases r with
   | cons a t=>
     cases t
     cases a
     exact⟨p,xs,i,j,x,rfl,rfl,h1,hi.1,hi.2,by rw[← h2.length];exact(yM e0).1,ex,k _ _ ⟨_,aT,(h2.eraseIdx j).mono (cW.ext ow)⟩ (rx.mono (cW.ext ow))⟩
  ·cases eq
 ·cases eq
noncomputable def bY8(i:Int)(e:D):D->Option D
 | .lst l=>(ixN l.length i).map fun j=>.lst (l.set j e)
 | _=>none
noncomputable def bM6(k:Nat)(ri re:DE):DS:=fun σ=>(re σ).bind fun x=>match x.1 with
 | .val d=>if aB7 "list" k x.2=true then(ri x.2).bind fun y=>(rd y.2 y.1).bind fun di=>match di with
   | .int i=>(bC8 (fun a _=>(bY8 i d a).map fun b=>(b,.non)) k [] y.2).bind fun z=>some (.nx z.2)
   | _=>none else none
 | _=>none
theorem aO5{X:Cx}{E:Ex}{st:Stmt}{k:Nat}{ri re:DE}(h:∀ Γ,PS X st (bQ0 (dTE Γ re) (cD8 (bO7 k) (dTE Γ ri) bR6))):GS E X st (bM6 k ri re):=.mk fun Γ=>psW (h Γ) fun D σV H ⟨σ,ok,o,e,kk⟩=>by
 obtain⟨⟨x,σ1⟩,e1,e⟩:=aC e
 refine⟨σ,ok,x,σ1,e1,fun v H1 ok1 r1 st1 f1=>?_⟩
 cases x with
 | own d=>cases e
 | slot d=>cases e
 | val d=>
   have e':(if aB7 "list" k σ1=true then(ri σ1).bind fun y=>(rd y.2 y.1).bind fun di=>match di with
    | .int i=>(bC8 (fun a _=>(bY8 i d a).map fun b=>(b,.non)) k [] y.2).bind fun z=>some (.nx z.2)
    | _=>none else none)=some o:=e
   split at e'
   ·rename_i hn
    obtain⟨⟨y,σ2⟩,e2,e'⟩:=aC e'
    obtain⟨di,e3,e'⟩:=aC e'
    obtain⟨s0,hs0,hm0,ht0⟩:=aB8 hn
    obtain⟨p,ep,ow⟩:=ok1.ownAt hs0 hm0
    dsimp only at e'
    split at e'
    ·rename_i i
     obtain⟨⟨z,σ3⟩,e4,e'⟩:=aC e'
     cases e'
     obtain⟨s,d',y',hs,hm,e5,rfl,rfl⟩:=lO e4
     obtain⟨b,e6,e7⟩:=Option.map_eq_some_iff.mp e5
     cases e7
     refine⟨_,ep,σ1,ok1,y,σ2,e2,fun vi H2 ok2 r2 st2 f2=>?_⟩
     obtain rfl:=cX (r2.vw ok2 e3)
     obtain⟨p',ep',ow2⟩:=ok2.ownAt hs (fX hm)
     rw[ep]at ep';cases ep'
     have rv:Rp H2 d v:=Rp.mono (st2.ext ok1) r1
     obtain⟨m,sd⟩:=s
     cases sd with
     | lst l=>
       obtain⟨j,e8,e9⟩:=Option.map_eq_some_iff.mp e6
       cases e9
       obtain⟨xs,h1,h2⟩:=mE ow2
       refine⟨p,xs,i,j,rfl,rfl,h1,by rw[← h2.length];exact e8,?_⟩
       obtain⟨ok3,st3⟩:=ok2.write (d':=.lst (l.set j d)) (o':=.lst (xs.set j v)) hs hm ep ⟨_,aT,(h2.set j rv).mono (cW.ext ow2)⟩
       exact kk _ _ ok3 ((st1.trans st2).trans st3)
     | _=>cases e6
    ·cases e'
   ·cases e'
end Dv
namespace Dv
open PySem L2
noncomputable def aI1(i j:Int):Prop:=0 < j/\j < 18446744073709551616
theorem aC8{X:Cx}:OpR X (binaryOp .FloorDiv) (rI aI1 fun i j=>.int (i / j)):=opI fun i j _ _ _ _ _ hc q=>by
 have h1:(0:Int) < j:=hc.1
 have h2:j < 18446744073709551616:=hc.2
 refine PyProof.Rows.floordiv_int (by omega) (by rw[Int.fdiv_eq_ediv_of_nonneg i (by omega)];exact q) (.inl (PyProof.noPylong_of_log2 ?_))
 have h0:j.natAbs≠0:=by omega
 have h64:j.natAbs.log2 < 64:=(Nat.log2_lt h0).mpr (by omega)
 omega
noncomputable def bY9:F2:=iiC aI1 fun i j=>.int (i / j)
theorem aO6:rZ (rI aI1 fun i j=>.int (i / j)) bY9:=zF fun _ _ _=>.int _
mutual
def hW:D->PyData
 | .non=>.none
 | .bl b=>.bool b
 | .int i=>.int i
 | .str x=>.str x
 | .tup l=>.tuple (toPys l)
 | .lst l=>.list (toPys l)
 | .dic _ _=>.dict []
def toPys:List D->List PyData
 | []=>[]
 | d::r=>hW d::toPys r
end
section
variable{X:Cx}{pins:List (Addr×Obj)}{σ:St}{H:Hp}{s:Shared}
mutual
theorem aC9(I:Inv X pins σ H s):∀ {d:D} {v:V} {u:Value},Rp H d v->dN v u->(hW d).canLay0=true->∃ as,Reads s.heap u (hW d) as
 | _,_,_,.non,r,_=>by cases r;exact⟨_,.none⟩
 | _,_,_,.bl b,r,_=>by cases r;exact⟨_,.bool b⟩
 | _,_,_,.int i,r,_=>by obtain⟨t,rfl⟩:=r;exact⟨_,.int i t⟩
 | _,_,_,.str x,r,_=>by obtain⟨t,rfl⟩:=r;exact⟨_,.str x t⟩
 | _,_,_,.tup h rs,r,hc=>by
   cases r
   obtain⟨_,its,vr,⟨o,ho,hcl,n,hd⟩,_⟩:=I.hok _ _ h
   obtain⟨as,ra⟩:=rps_reads I rs vr hc
   exact⟨_,.tuple ho hcl hd (by simpa using ra)⟩
 | _,_,_,.lst h rs,r,hc=>by
   cases r
   obtain⟨_,_,its,n,vr,e⟩:=I.hok _ _ h
   obtain⟨as,ra⟩:=rps_reads I rs vr hc
   exact⟨_,.list e rfl rfl (by simpa using ra)⟩
 | _,_,_,.dic h k rs,r,hc=>nomatch hc
theorem rps_reads(I:Inv X pins σ H s):∀ {l:List D} {vs:List V} {us:List Value},Rps H l vs->bL vs us->PyData.canLayAll0 (toPys l)=true->∃ as,ReadsAll s.heap us (toPys l) as
 | [],_,_,.nil,r,_=>by cases r;exact⟨_,.nil⟩
 | d::l,_,_,.cons a t,r,hc=>by
   cases r with
   | cons r1 r2=>
     have hc':(hW d).canLay0=true/\PyData.canLayAll0 (toPys l)=true:=by simpa[toPys,PyData.canLayAll0]using hc
     obtain⟨as,h1⟩:=aC9 I a r1 hc'.1
     obtain⟨bs,h2⟩:=rps_reads I t r2 hc'.2
     exact⟨_,.cons h1 h2⟩
end
theorem fC(I:Inv X pins σ H s){d:D}{v:V}{u:Value}(h:Vw H d v)(r:dN v u)(hc:(hW d).canLay0=true):∃ as,Reads s.heap u (hW d) as:=by
 rcases h with h | ⟨p,rfl,h⟩
 ·exact aC9 I h r hc
 ·cases r
  cases d with
  | lst l=>
    obtain⟨xs,h1,h2⟩:=mE h
    obtain⟨_,its,n,vr,e⟩:=I.hok _ _ h1
    obtain⟨as,ra⟩:=rps_reads I h2 vr hc
    exact⟨_,.list e rfl rfl (by simpa using ra)⟩
  | dic ks vs=>exact nomatch hc
  | _=>exact h.elim
end
noncomputable def yJ(d e:D):Bool:=PyData.eqv (hW d) (hW e)
noncomputable def cQ(d:D):Bool:=(hW d).canLay0&&decide ((hW d).depth<=60)
noncomputable def cC4(neg:Bool):R2:=fun x y H Q=>∃ d e,Vw H d x/\Vw H e y/\cQ d=true/\cQ e=true/\Q (.bl (if neg then !yJ d e else yJ d e)) H
theorem bU{d:D}(h:cQ d=true):(hW d).canLay0=true/\(hW d).depth<=60:=by
 unfold cQ at h
 rw[Bool.and_eq_true,decide_eq_true_eq]at h
 exact h
theorem jH{X:Cx}(hu:X.A.units+64 < cLine):OpR X (compareOp .Eq) (cC4 false):=by
 intro pins s σ H x y v u Q I rx ry h
 obtain⟨d,e,v1,v2,c1,c2,q⟩:=h
 obtain⟨a1,b1⟩:=bU c1
 obtain⟨a2,b2⟩:=bU c2
 obtain⟨as,r1⟩:=fC I v1 rx a1
 obtain⟨bs,r2⟩:=fC I v2 ry a2
 exact SeqAt.rcAt_reads r1 r2 a1 a2 (by omega) _ _ _ _ ⟨.bl _,H,I,rfl,q⟩
theorem aO7{X:Cx}(hu:X.A.units+64 < cLine):OpR X (compareOp .NotEq) (cC4 true):=by
 intro pins s σ H x y v u Q I rx ry h
 obtain⟨d,e,v1,v2,c1,c2,q⟩:=h
 obtain⟨a1,b1⟩:=bU c1
 obtain⟨a2,b2⟩:=bU c2
 obtain⟨as,r1⟩:=fC I v1 rx a1
 obtain⟨bs,r2⟩:=fC I v2 ry a2
 exact SeqAt.rcNeAt_reads r1 r2 a1 a2 (by omega) _ _ _ _ ⟨.bl _,H,I,rfl,q⟩
noncomputable def eqD(neg:Bool):F2:=fun d e=>if cQ d=true/\cQ e=true then some (.val (.bl (if neg then !yJ d e else yJ d e)))else none
theorem gJ{neg:Bool}:rZ (cC4 neg) (eqD neg):=by
 intro H d1 d2 x y Q res v1 v2 e k
 unfold eqD at e
 split at e
 ·rename_i hc
  cases e
  exact⟨d1,d2,v1,v2,hc.1,hc.2,k _ H (.refl _) (.bl _)⟩
 ·cases e
noncomputable def cC5(neg:Bool):R2:=fun x y H Q=>(∃ i j,x=.str i/\y=.str j/\Q (.bl (if neg then(Builtin.Str.occurrences j i 0 j.length 1).isEmpty else !(Builtin.Str.occurrences j i 0 j.length 1).isEmpty)) H) \/
 ∃ d e b l,Vw H d x/\Vw H e y/\bL9 e=some (b,l)/\cQ d=true/\cQ e=true/\Q (.bl (if neg then !(l.any fun y=>yJ y d)else l.any fun y=>yJ y d)) H
theorem mF(d:D):∀ l:List D,(toPys l).any (fun y=>PyData.eqv y (hW d))=l.any fun y=>yJ y d
 | []=>rfl
 | e::r=>by show(PyData.eqv (hW e) (hW d)||(toPys r).any _)=_;rw[mF d r];rfl
theorem sI{e:D}{b:Bool}{l:List D}(h:bL9 e=some (b,l)):PyData.depthAll (toPys l)<=(hW e).depth/\((hW e).canLay0=true->PyData.canLayAll0 (toPys l)=true):=by
 cases e with
 | lst l'=>cases h;exact⟨by show _<=PyData.depth (.list (toPys l));simp only[PyData.depth];omega,fun z=>z⟩
 | tup l'=>cases h;exact⟨by show _<=PyData.depth (.tuple (toPys l));simp only[PyData.depth];omega,fun z=>z⟩
 | _=>cases h
theorem cE9{X:Cx}(hu:X.A.units+64 < cLine):OpR X (compareOp .In) (cC5 false):=by
 intro pins s σ H x y v u Q I rx ry h
 rcases h with⟨i,j,rfl,rfl,q⟩ | ⟨d,e,b,l,v1,v2,hs,c1,c2,q⟩
 ·exact aL2 pins s σ H _ _ v u Q I rx ry ⟨_,_,rfl,rfl,by simpa using q⟩
 ·obtain⟨a1,b1⟩:=bU c1
  obtain⟨a2,b2⟩:=bU c2
  obtain⟨as,r1⟩:=fC I v1 rx a1
  obtain⟨bs,r2⟩:=fC I v2 ry a2
  obtain⟨dp,cl⟩:=sI hs
  have fin:EP X pins σ Q (.bool ((toPys l).any fun y=>PyData.eqv y (hW d))) s:=⟨.bl _,H,I,by rw[mF];rfl,q⟩
  cases e with
  | lst l'=>cases hs;exact SeqAt.in_list_reads r2 r1 (cl a2) a1 (by omega) fin
  | tup l'=>cases hs;exact SeqAt.in_tuple_reads r2 r1 (cl a2) a1 (by omega) fin
  | _=>cases hs
theorem aO8{X:Cx}(hu:X.A.units+64 < cLine):OpR X (compareOp .NotIn) (cC5 true):=by
 intro pins s σ H x y v u Q I rx ry h
 rcases h with⟨i,j,rfl,rfl,q⟩ | ⟨d,e,b,l,v1,v2,hs,c1,c2,q⟩
 ·exact rO pins s σ H _ _ v u Q I rx ry ⟨_,_,rfl,rfl,by simpa using q⟩
 ·obtain⟨a1,b1⟩:=bU c1
  obtain⟨a2,b2⟩:=bU c2
  obtain⟨as,r1⟩:=fC I v1 rx a1
  obtain⟨bs,r2⟩:=fC I v2 ry a2
  obtain⟨dp,cl⟩:=sI hs
  have fin:EP X pins σ Q (.bool (!(toPys l).any fun y=>PyData.eqv y (hW d))) s:=⟨.bl _,H,I,by rw[mF];rfl,q⟩
  cases e with
  | lst l'=>cases hs;exact SeqAt.notIn_list_reads r2 r1 (cl a2) a1 (by omega) fin
  | tup l'=>cases hs;exact SeqAt.notIn_tuple_reads r2 r1 (cl a2) a1 (by omega) fin
  | _=>cases hs
noncomputable def inD(neg:Bool):F2:=fun d e=>match d,e with
 | .str i,.str j=>some (.val (.bl (if neg then(Builtin.Str.occurrences j i 0 j.length 1).isEmpty else !(Builtin.Str.occurrences j i 0 j.length 1).isEmpty)))
 | d,e=>match bL9 e with
   | some (_,l)=>if cQ d=true/\cQ e=true then some (.val (.bl (if neg then !(l.any fun y=>yJ y d)else l.any fun y=>yJ y d)))else none
   | none=>none
theorem bU1{neg:Bool}:rZ (cC5 neg) (inD neg):=by
 intro H d1 d2 x y Q res v1 v2 e k
 unfold inD at e
 split at e
 ·cases e
  obtain rfl:=gW v1
  obtain rfl:=gW v2
  exact .inl ⟨_,_,rfl,rfl,k _ H (.refl _) (.bl _)⟩
 ·split at e
  ·rename_i b l hs
   split at e
   ·rename_i hc
    cases e
    exact .inr ⟨d1,d2,b,l,v1,v2,hs,hc.1,hc.2,k _ H (.refl _) (.bl _)⟩
   ·cases e
  ·cases e
noncomputable def bI8(K:PySem.W.Frag):List V->Hp->VK->Prop:=fun xs H Q=>∃ x c t,xs=[x,.ty c]/\TyOf K H x (.type t)/\(t="NoneType"\/t="int"\/t="bool"\/t="str"\/t="list"\/t="tuple") /\
 (c="int"\/c="bool"\/c="str"\/c="list"\/c="tuple")/\Q (.bl (kA t c)) H
theorem fP{X:Cx}(K:PySem.W.Frag)(hK:X.K=K):gN X (.builtin "isinstance") (bI8 K):=by
 subst hK
 intro pins s σ H xs us Q I r h
 obtain⟨x,c,t,rfl,ty,h1,h2,q⟩:=h
 exact yP pins s σ H _ us Q I r ⟨x,c,.type t,_,rfl,ty,aX7 h1 h2,q⟩
theorem pU{X:Cx}{e:Expr}{r:DE}{c:String}(K:PySem.W.Frag)(hc:c="int"\/c="bool"\/c="str"\/c="list"\/c="tuple")(h:∀ Γ,PE X e (tCB (bI8 K) (bF4 (dTE Γ r) (bF4 (tC (.ty c)) cD9)))):GE X e (aJ5 (aK0 c) r):=.mk fun Γ=>peW (h Γ) fun σV H Q hq=>by
 have hp:cB5 (fun x H Q=>bI8 K [x,.ty c] H Q) (aK0 c):=by
  intro H d x Q res v1 e k
  cases d with
  | non=>cases e;obtain rfl:=bS9 v1;exact⟨_,_,_,rfl,.non,.inl rfl,hc,k _ H (.refl _) (.bl _)⟩
  | bl b=>cases e;obtain rfl:=aN0 v1;exact⟨_,_,_,rfl,.bl b,.inr (.inr (.inl rfl)),hc,k _ H (.refl _) (.bl _)⟩
  | int i=>cases e;obtain rfl:=cX v1;exact⟨_,_,_,rfl,.int i,.inr (.inl rfl),hc,k _ H (.refl _) (.bl _)⟩
  | str i=>cases e;obtain rfl:=gW v1;exact⟨_,_,_,rfl,.str i,.inr (.inr (.inr (.inl rfl))),hc,k _ H (.refl _) (.bl _)⟩
  | tup l=>cases e;obtain⟨p,xs,rfl,h1,_⟩:=eG v1;exact⟨_,_,_,rfl,.tup h1,.inr (.inr (.inr (.inr (.inr rfl)))),hc,k _ H (.refl _) (.bl _)⟩
  | lst l=>
    cases e
    rcases v1 with v1 | ⟨p,rfl,v1⟩
    ·cases v1 with
     | lst h1 _=>exact⟨_,_,_,rfl,.frz h1,.inr (.inr (.inr (.inr (.inl rfl)))),hc,k _ H (.refl _) (.bl _)⟩
    ·obtain⟨xs,h1,_⟩:=mE v1
     exact⟨_,_,_,rfl,.lst h1,.inr (.inr (.inr (.inr (.inl rfl)))),hc,k _ H (.refl _) (.bl _)⟩
  | dic ks vs=>cases e
 exact aY2 hp hq
end Dv
namespace Dv
open PySem L2
theorem gE{X:Cx}{e:Expr}{r:DE}(h:GE X e r)(Γ:Gm):PE X e (dTE Γ r):=h.to Γ
theorem gA{X:Cx}{e:List Expr}{r:DA}(h:GA X e r)(Γ:Gm):PA X e (dTA Γ r):=h.to Γ
theorem gT{X:Cx}{e:Expr}{r:DT}(h:GT X e r)(Γ:Gm):PT X e (dTT Γ r):=h.to Γ
theorem gI{X:Cx}{tg e:Expr}{r:DI}(h:GI X tg e r)(Γ:Gm):PI X tg e (dTI Γ r):=h.to Γ
theorem gSs{X:Cx}{E:Ex}{e:List Stmt}{r:DS}(h:GSs E X e r)(Γ:Gm):PSs X e (dTS Γ E r):=h.to Γ
noncomputable def bD1(K:PySem.W.Frag):Bool:=K.all fun p=>match p.2.cls with
 | .type n=>!(n=="list")
 | _=>true
theorem aO9{run:Run}{K:PySem.W.Frag}{H:Hp}{a:Addr}{ns:List Int}(hK:bD1 K=true)(hO:bY4 H)(hS:SqL K H a (ns.map V.int))(h:∃ as',run [⟨.val,.lst (ns.map D.int)⟩]=some (.val (.bl true),as')) :
  dsp 1 run [.ref a] H (fun v _=>v=.bl true) (fun _ _ _=>False):=by
 obtain⟨as',h⟩:=h
 have hf:∃ o,H a=some (.frz o (.lst (ns.map V.int))):=by
  rcases hS with hS | ⟨o,its,n,hk,hc,_⟩
  ·rcases hS with hS | ⟨o,hS⟩
   ·rcases hO a with z | ⟨o,xs,z⟩
    ·rw[hS]at z;cases z
    ·rw[hS]at z;cases z
   ·exact⟨o,hS⟩
  ·exfalso
   unfold bD1 at hK
   rw[List.all_eq_true]at hK
   have hm:(a,o)∈K:=by
    clear hK hO h
    have:∀ (l:List (Addr×Obj)),List.lookup a l=some o->(a,o)∈l:=by
     intro l
     induction l with
     | nil=>intro h;simp at h
     | cons p r ih=>
       intro h
       rw[List.lookup_cons]at h
       split at h
       ·rename_i e
        have:a=p.1:=by simpa using e
        cases h
        rw[this]
        exact List.mem_cons_self
       ·exact List.mem_cons_of_mem _ (ih h)
    exact this K hk
   have:=hK _ hm
   rw[hc]at this
   simp at this
 obtain⟨o,hf⟩:=hf
 refine⟨[⟨.val,.lst (ns.map D.int)⟩],_,as',⟨rfl,fun i s e=>?_,fun i j s t p n ei ej m=>?_,fun i s e=>?_⟩,rfl,h,fun v H' po nw=>?_⟩
 ·cases i with
  | zero=>simp at e;subst e;exact⟨_,rfl,.lst hf (lL ns)⟩
  | succ i=>simp at e
 ·cases i with
  | zero=>simp at ei;subst ei;cases m
  | succ i=>simp at ei
 ·cases i with
  | zero=>simp at e;subst e;exact fun z=>nomatch z
  | succ i=>simp at e
 ·cases nw;rfl
end Dv
namespace Dv
open PySem L2
noncomputable def OK1{α:Type}(o:Option α)(K:α->Prop):Prop:=match o with
 | some a=>K a
 | none=>False
noncomputable def RE(r:DE)(σ:Sg)(Q:Res->Sg->Prop):Prop:=OK1 (r σ) fun x=>Q x.1 x.2
noncomputable def RT(r:DT)(σ:Sg)(Q:Bool->Sg->Prop):Prop:=OK1 (r σ) fun x=>Q x.1 x.2
noncomputable def RA(r:DA)(σ:Sg)(Q:List Res->Sg->Prop):Prop:=OK1 (r σ) fun x=>Q x.1 x.2
noncomputable def RS(r:DS)(σ:Sg)(Q:Out->Prop):Prop:=OK1 (r σ) Q
noncomputable def RI(r:DI)(σ:Sg)(Q:List D->Option Nat->Sg->Prop):Prop:=OK1 (r σ) fun x=>Q x.1 x.2.1 x.2.2
noncomputable def RO(r:DO)(σ:Sg)(Q:Option Int->Sg->Prop):Prop:=OK1 (r σ) fun x=>Q x.1 x.2
theorem aJ{α β:Type}{o:Option α}{f:α->Option β}{K:β->Prop}:OK1 (o.bind f) K=OK1 o fun a=>OK1 (f a) K:=by cases o<;>rfl
theorem bE{α:Type}{a:α}{K:α->Prop}:OK1 (some a) K=K a:=rfl
theorem sJ{α β:Type}{o:Option α}{f:α->β}{K:β->Prop}:OK1 (o.map f) K=OK1 o fun a=>K (f a):=by cases o<;>rfl
theorem bI{α:Type}{c:Prop}[Decidable c]{o:Option α}{K:α->Prop}:OK1 (if c then o else none) K=(c/\OK1 o K):=by
 by_cases h:c
 ·rw[if_pos h];exact propext ⟨fun q=>⟨h,q⟩,fun q=>q.2⟩
 ·rw[if_neg h];exact propext ⟨fun q=>q.elim,fun q=>h q.1⟩
theorem aP0{α:Type}{o:Option α}{K:α->Prop}:OK1 o K↔∃ a,o=some a/\K a:=by
 cases o with
 | none=>exact⟨fun q=>q.elim,fun⟨_,e,_⟩=>nomatch e⟩
 | some a=>exact⟨fun q=>⟨a,rfl,q⟩,fun⟨_,e,q⟩=>by cases e;exact q⟩
theorem dL{α:Type}{o:Option α}{K K':α->Prop}(h:OK1 o K)(w:∀ a,K a->K' a):OK1 o K':=by
 cases o with
 | none=>exact h
 | some a=>exact w a h
noncomputable def VK:Nat->Sg->Nat->Sg->(Res->Sg->Prop)->Prop
 | 0,some s::_,i,σ,Q=>Q (if s.m=.val then .val s.d else .slot i) σ
 | n+1,_::r,i,σ,Q=>VK n r i σ Q
 | _,_,_,_,_=>False
theorem bU2:∀ (n:Nat) (r:Sg) (i:Nat) (σ:Sg) (Q:Res->Sg->Prop),VK n r i σ Q=OK1 (match r[n]? with | some (some s)=>some (if s.m=.val then Res.val s.d else Res.slot i,σ) | _=>none) fun x=>Q x.1 x.2
 | 0,[],_,_,_=>rfl
 | 0,none::_,_,_,_=>rfl
 | 0,some s::_,_,_,_=>rfl
 | n+1,[],_,_,_=>rfl
 | n+1,_::r,i,σ,Q=>by
   show VK n r i σ Q=_
   rw[bU2 n r i σ Q,List.getElem?_cons_succ]
noncomputable def GK:Nat->Sg->(D->Prop)->Prop
 | 0,some s::_,K=>K s.d
 | n+1,_::r,K=>GK n r K
 | _,_,_=>False
theorem bU3:∀ (n:Nat) (r:Sg) (K:D->Prop),GK n r K=OK1 (match r[n]? with | some (some s)=>some s.d | _=>none) K
 | 0,[],_=>rfl
 | 0,none::_,_=>rfl
 | 0,some s::_,_=>rfl
 | n+1,[],_=>rfl
 | n+1,_::r,K=>by
   show GK n r K=_
   rw[bU3 n r K,List.getElem?_cons_succ]
noncomputable def RD(σ:Sg)(r:Res)(K:D->Prop):Prop:=OK1 (rd σ r) K
noncomputable def PK:Nat->Sg->Sl->(Sg->Prop)->Prop
 | 0,none::r,s,K=>K (some s::r)
 | 0,some ⟨.val,_⟩::r,s,K=>K (some s::r)
 | 0,some ⟨.own,_⟩::r,s,K=>K (some s::r)
 | n+1,o::r,s,K=>PK n r s fun r'=>K (o::r')
 | _,_,_,_=>False
theorem aI2{n:Nat}{o:Option Sl}{r:Sg}:eR (o::r) (n+1)=eR r n:=by unfold eR;rw[List.getElem?_cons_succ]
theorem aZ3:∀ (n:Nat) (r:Sg) (s:Sl) (K:Sg->Prop),PK n r s K=OK1 (if eR r n=true then some (r.set n (some s))else none) K
 | 0,[],s,K=>rfl
 | 0,none::r,s,K=>rfl
 | 0,some ⟨.val,_⟩::r,s,K=>rfl
 | 0,some ⟨.own,_⟩::r,s,K=>rfl
 | 0,some ⟨.par,_⟩::r,s,K=>rfl
 | 0,some ⟨.lent,_⟩::r,s,K=>rfl
 | n+1,[],s,K=>by
   show False=_
   rw[bI];unfold eR;simp
 | n+1,o::r,s,K=>by
   show PK n r s (fun r'=>K (o::r'))=_
   rw[aZ3 n r s _,bI,bI,aI2,List.set_cons_succ]
   rfl
noncomputable def MK:Nat->Sg->FM->List D->(D->Sg->Prop)->Prop
 | 0,some ⟨.own,d⟩::r,f,ds,K=>OK1 (f d ds) fun y=>K y.2 (some ⟨.own,y.1⟩::r)
 | 0,some ⟨.par,d⟩::r,f,ds,K=>OK1 (f d ds) fun y=>K y.2 (some ⟨.par,y.1⟩::r)
 | n+1,o::r,f,ds,K=>MK n r f ds fun e r'=>K e (o::r')
 | _,_,_,_,_=>False
theorem bU4:∀ (n:Nat) (r:Sg) (f:FM) (ds:List D) (K:D->Sg->Prop),MK n r f ds K=OK1 (bC8 f n ds r) fun x=>OK1 (match x.1 with | .val d=>some d | _=>none) fun d=>K d x.2
 | 0,[],f,ds,K=>rfl
 | 0,none::r,f,ds,K=>rfl
 | 0,some ⟨.val,_⟩::r,f,ds,K=>rfl
 | 0,some ⟨.lent,_⟩::r,f,ds,K=>rfl
 | 0,some ⟨.own,d⟩::r,f,ds,K=>by
   show OK1 (f d ds) _=OK1 ((f d ds).bind fun y=>some (Res.val y.2,some (⟨.own,y.1⟩:Sl)::r)) _
   rw[aJ];rfl
 | 0,some ⟨.par,d⟩::r,f,ds,K=>by
   show OK1 (f d ds) _=OK1 ((f d ds).bind fun y=>some (Res.val y.2,some (⟨.par,y.1⟩:Sl)::r)) _
   rw[aJ];rfl
 | n+1,[],f,ds,K=>rfl
 | n+1,o::r,f,ds,K=>by
   show MK n r f ds (fun e r'=>K e (o::r'))=_
   rw[bU4 n r f ds _]
   unfold bC8
   rw[List.getElem?_cons_succ]
   cases q:r[n]? with
   | none=>rfl
   | some x=>cases x with
     | none=>rfl
     | some s=>
       dsimp only
       by_cases hm:s.m.mt=true
       ·rw[if_pos hm,if_pos hm,aJ,aJ];rfl
       ·rw[if_neg hm,if_neg hm];rfl
noncomputable def TK:String->Nat->Sg->Prop->Prop
 | T,0,some ⟨.own,d⟩::_,P=>tyD T d=true/\P
 | T,0,some ⟨.par,d⟩::_,P=>tyD T d=true/\P
 | T,0,some ⟨.lent,d⟩::_,P=>tyD T d=true/\P
 | T,n+1,_::r,P=>TK T n r P
 | _,_,_,_=>False
theorem bI9:∀ (T:String) (n:Nat) (r:Sg) (P:Prop),TK T n r P=(aB7 T n r=true/\P)
 | T,0,[],P=>by simp[TK,aB7]
 | T,0,none::r,P=>by simp[TK,aB7]
 | T,0,some ⟨.val,d⟩::r,P=>by simp[TK,aB7]
 | T,0,some ⟨.own,d⟩::r,P=>by simp[TK,aB7]
 | T,0,some ⟨.par,d⟩::r,P=>by simp[TK,aB7]
 | T,0,some ⟨.lent,d⟩::r,P=>by simp[TK,aB7]
 | T,n+1,[],P=>by simp[TK,aB7]
 | T,n+1,o::r,P=>by
   show TK T n r P=_
   rw[bI9 T n r P]
   unfold aB7
   rw[List.getElem?_cons_succ]
section
variable{σ:Sg}{Q:Res->Sg->Prop}{QT:Bool->Sg->Prop}{QA:List Res->Sg->Prop}{QS:Out->Prop}{K:D->Prop}{KR:Res->Prop}{a b c:DE}{ra:DA}{t u:DT}{x y:DS}{d e:D}{f:F2}{f1:F1}{fn:FN}{i j n:Nat}{r:Sg}{o:Option Sl}
theorem bU5:RE (dC d) σ Q=Q (.val d) σ:=rfl
theorem sK:RE (aI i) σ Q=VK i σ i σ Q:=(bU2 i σ i σ Q).symm
theorem sL:VK (n+1) (o::r) i σ Q=VK n r i σ Q:=rfl
theorem sM:VK 0 (some ⟨.val,d⟩::r) i σ Q=Q (.val d) σ:=rfl
theorem sN:VK 0 (some ⟨.own,d⟩::r) i σ Q=Q (.slot i) σ:=rfl
theorem sO:VK 0 (some ⟨.par,d⟩::r) i σ Q=Q (.slot i) σ:=rfl
theorem sP:VK 0 (some ⟨.lent,d⟩::r) i σ Q=Q (.slot i) σ:=rfl
theorem sQ:RE (aZ f a b) σ Q=RE a σ fun x σ1=>RE b σ1 fun y σ2=>RD σ2 x fun d=>RD σ2 y fun e=>OK1 (f d e) fun r=>Q r σ2:=by
 unfold RE aZ RD;simp only[aJ,bE]
theorem sR:RE (aJ5 f1 a) σ Q=RE a σ fun x σ1=>RD σ1 x fun d=>OK1 (f1 d) fun r=>Q r σ1:=by
 unfold RE aJ5 RD;simp only[aJ,bE]
theorem sS:RD σ (.val d) K=K d:=rfl
theorem sT:RD σ (.own d) K=K d:=rfl
theorem sU:RD σ (.slot i) K=GK i σ K:=(bU3 i σ K).symm
theorem sV{m:Md}:GK 0 (some ⟨m,d⟩::r) K=K d:=rfl
theorem sW:GK (n+1) (o::r) K=GK n r K:=rfl
theorem sX:RT (gO a) σ QT=RE a σ fun x σ1=>RD σ1 x fun d=>OK1 (match d with | .bl b=>some b | _=>none) fun b=>QT b σ1:=by
 unfold RT RE gO RD
 simp only[aJ]
 congr 1;funext x;congr 1;funext d
 cases d<;>rfl
theorem sY{b:Bool}{K:Bool->Prop}:OK1 (match D.bl b with | .bl b=>some b | _=>none) K=K b:=rfl
theorem sZ:RT (bT0 t u) σ QT=RT t σ fun b σ1=>if b=true then RT u σ1 QT else QT false σ1:=by
 unfold RT bT0;simp only[aJ]
 congr 1;funext x;by_cases h:x.1=true<;>simp[h,OK1]
theorem aP1:RT (dOr t u) σ QT=RT t σ fun b σ1=>if b=true then QT true σ1 else RT u σ1 QT:=by
 unfold RT dOr;simp only[aJ]
 congr 1;funext x;by_cases h:x.1=true<;>simp[h,OK1]
theorem tE:RT (aB3 t) σ QT=RT t σ fun b σ1=>QT (!b) σ1:=by
 unfold RT aB3;simp only[aJ,bE]
theorem mG:RT jF σ QT=QT true σ:=rfl
theorem mH:RE (sA a b) σ Q=RT (gO a) σ fun t σ1=>if t=true then RE b σ1 Q else Q (.val (.bl false)) σ1:=by
 unfold RT RE sA;simp only[aJ]
 congr 1;funext x;by_cases h:x.1=true<;>simp[h,OK1]
theorem mI:RE (aY3 a) σ Q=RT (gO a) σ fun t σ1=>Q (.val (.bl (!t))) σ1:=by
 unfold RT RE aY3;simp only[aJ,bE]
theorem bZ0{g:F2}:RE (bC7 f g a b c) σ Q=RE a σ fun x σ1=>RE b σ1 fun y σ2=>RD σ2 x fun d=>RD σ2 y fun e=>OK1 (f d e) fun k=>OK1 (match k with | .val (.bl t)=>some t | _=>none) fun t=>if t=true then RE c σ2 (fun z σ3=>RD σ3 y fun e=>RD σ3 z fun h=>OK1 (g e h) fun r=>Q r σ3)else Q (.val (.bl false)) σ2:=by
 unfold RE bC7 RD
 simp only[aJ]
 congr 1;funext x;congr 1;funext y;congr 1;funext d;congr 1;funext e
 cases f d e with
 | none=>rfl
 | some k=>
   cases k with
   | val v=>
     cases v with
     | bl b=>
       cases b with
       | false=>simp[OK1]
       | true=>
         dsimp only
         simp only[aJ,bE,if_true]
     | _=>rfl
   | own v=>rfl
   | slot v=>rfl
theorem tF{b:Bool}{K:Bool->Prop}:OK1 (match Res.val (D.bl b)with | .val (.bl t)=>some t | _=>none) K=K b:=rfl
theorem tG:RA aW σ QA=QA [] σ:=rfl
theorem mJ:RA (aD a ra) σ QA=RE a σ fun x σ1=>RA ra σ1 fun xs σ2=>QA (x::xs) σ2:=by
 unfold RA RE aD;simp only[aJ,bE]
noncomputable def RDs(σ:Sg)(rs:List Res)(K:List D->Prop):Prop:=OK1 (rds σ rs) K
noncomputable def VLs(rs:List Res)(K:List D->Prop):Prop:=OK1 (vals rs) K
theorem mK{K:List D->Prop}:RDs σ [] K=K []:=rfl
theorem mL{x:Res}{xs:List Res}{K:List D->Prop}:RDs σ (x::xs) K=RD σ x fun d=>RDs σ xs fun ds=>K (d::ds):=by
 show OK1 ((rd σ x).bind fun d=>(rds σ xs).bind fun ds=>some (d::ds)) K=_
 unfold RDs RD;simp only[aJ,bE]
theorem tH{K:List D->Prop}:VLs [] K=K []:=rfl
theorem tJ{xs:List Res}{K:List D->Prop}:VLs (.val d::xs) K=VLs xs fun ds=>K (d::ds):=by
 show OK1 ((vals xs).bind fun ds=>some (d::ds)) K=_
 unfold VLs;simp only[aJ,bE]
theorem aP2:RE (dCB fn ra) σ Q=RA ra σ fun xs σ1=>RDs σ1 xs fun ds=>OK1 (fn ds) fun r=>Q r σ1:=by
 unfold RE RA RDs dCB;simp only[aJ,bE]
theorem tK:RE (bM0 ra) σ Q=RA ra σ fun xs σ1=>VLs xs fun ds=>ds.length<=sizeLine/\Q (.val (.tup ds)) σ1:=by
 unfold RE RA VLs bM0;simp only[aJ,bI,bE]
theorem tL:RE (yW ra) σ Q=RA ra σ fun xs σ1=>VLs xs fun ds=>ds.length<=sizeLine/\Q (.own (.lst ds)) σ1:=by
 unfold RE RA VLs yW;simp only[aJ,bI,bE]
noncomputable def FK(r:Res)(σ:Sg)(K:D->Sg->Prop):Prop:=OK1 (cE5 σ r) fun x=>K x.1 x.2
noncomputable def ZK:Nat->Sg->(D->Sg->Prop)->Prop
 | 0,some ⟨.own,d⟩::r,K=>K d (some ⟨.val,d⟩::r)
 | 0,some ⟨.val,d⟩::r,K=>K d (some ⟨.val,d⟩::r)
 | n+1,o::r,K=>ZK n r fun d r'=>K d (o::r')
 | _,_,_=>False
theorem aP3:RE (dFz a) σ Q=RE a σ fun x σ1=>FK x σ1 fun d σ2=>Q (.val d) σ2:=by
 unfold RE dFz FK;simp only[aJ,bE]
theorem tM{K:D->Sg->Prop}:FK (.val d) σ K=K d σ:=rfl
theorem tN{K:D->Sg->Prop}:FK (.own d) σ K=K d σ:=rfl
theorem tO{K:D->Sg->Prop}:ZK 0 (some ⟨.own,d⟩::r) K=K d (some ⟨.val,d⟩::r):=rfl
theorem tP{K:D->Sg->Prop}:ZK 0 (some ⟨.val,d⟩::r) K=K d (some ⟨.val,d⟩::r):=rfl
theorem tQ{K:D->Sg->Prop}:ZK (n+1) (o::r) K=ZK n r fun d r'=>K d (o::r'):=rfl
theorem mM:RS iL σ QS=QS (.nx σ):=rfl
theorem mO:RS (fun σ=>some (.ct σ)) σ QS=QS (.ct σ):=rfl
noncomputable def SqK(y:DS)(QS:Out->Prop):Out->Prop
 | .nx σ=>RS y σ QS
 | o=>QS o
theorem tR:RS (cL x y) σ QS=RS x σ (SqK y QS):=by
 unfold RS cL
 rw[aJ]
 congr 1;funext o
 cases o<;>rfl
theorem tS:SqK y QS (.nx σ)=RS y σ QS:=rfl
theorem tT{v:Res}:SqK y QS (.rt v σ)=QS (.rt v σ):=rfl
theorem tU:SqK y QS (.bk σ)=QS (.bk σ):=rfl
theorem tV:SqK y QS (.ct σ)=QS (.ct σ):=rfl
theorem mP:RS (aH7 a) σ QS=RE a σ fun _ σ1=>QS (.nx σ1):=by unfold RS RE aH7;simp only[aJ,bE]
theorem tW:RS (iR a) σ QS=RE a σ fun x σ1=>QS (.rt x σ1):=by unfold RS RE iR;simp only[aJ,bE]
theorem mQ:RS cB9 σ QS=QS (.rt (.val .non) σ):=rfl
theorem tX:RS (rM t x y) σ QS=RT t σ fun b σ1=>if b=true then RS x σ1 QS else RS y σ1 QS:=by
 unfold RS RT rM;simp only[aJ]
 congr 1;funext z;by_cases h:z.1=true<;>simp[h]
noncomputable def PtK(i:Nat)(r:Res)(σ:Sg)(K:Sg->Prop):Prop:=OK1 (cE6 i r σ) K
theorem tY:RS (fM i a) σ QS=RE a σ fun x σ1=>PtK i x σ1 fun σ2=>QS (.nx σ2):=by unfold RS RE PtK fM;simp only[aJ,bE]
theorem tZ{K:Sg->Prop}:PtK i (.val d) σ K=PK i σ ⟨.val,d⟩ K:=(aZ3 i σ _ K).symm
theorem uA{K:Sg->Prop}:PtK i (.own d) σ K=PK i σ ⟨.own,d⟩ K:=(aZ3 i σ _ K).symm
theorem uB{s:Sl}{K:Sg->Prop}:PK 0 (none::r) s K=K (some s::r):=rfl
theorem uC{s:Sl}{K:Sg->Prop}:PK 0 (some ⟨.val,d⟩::r) s K=K (some s::r):=rfl
theorem uD{s:Sl}{K:Sg->Prop}:PK 0 (some ⟨.own,d⟩::r) s K=K (some s::r):=rfl
theorem uE{s:Sl}{K:Sg->Prop}:PK (n+1) (o::r) s K=PK n r s fun r'=>K (o::r'):=rfl
theorem bU6{fm:FM}{ds:List D}{σ:Sg}:OK1 (bC8 fm i ds σ) (fun x=>Q x.1 x.2)=MK i σ fm ds fun d σ1=>Q (.val d) σ1:=by
 rw[bU4]
 apply propext
 rw[aP0,aP0]
 constructor
 ·rintro⟨⟨x,s⟩,e,q⟩
  obtain⟨_,_,_,_,_,_,rfl,_⟩:=lO e
  exact⟨_,e,q⟩
 ·rintro⟨⟨x,s⟩,e,q⟩
  obtain⟨_,_,_,_,_,_,rfl,_⟩:=lO e
  exact⟨_,e,q⟩
theorem mR{T:String}{fm:FM}:RE (sC T i fm ra) σ Q=TK T i σ (RA ra σ fun xs σ1=>VLs xs fun ds=>MK i σ1 fm ds fun d σ2=>Q (.val d) σ2):=by
 rw[bI9]
 unfold RE sC RA VLs
 rw[bI]
 simp only[aJ,bU6]
theorem uF{T:String}{P:Prop}:TK T 0 (some ⟨.own,d⟩::r) P=(tyD T d=true/\P):=rfl
theorem uG{T:String}{P:Prop}:TK T 0 (some ⟨.par,d⟩::r) P=(tyD T d=true/\P):=rfl
theorem uH{T:String}{P:Prop}:TK T (n+1) (o::r) P=TK T n r P:=rfl
theorem uI{fm:FM}{ds:List D}{K:D->Sg->Prop}:MK 0 (some ⟨.own,d⟩::r) fm ds K=OK1 (fm d ds) fun y=>K y.2 (some ⟨.own,y.1⟩::r):=rfl
theorem uJ{fm:FM}{ds:List D}{K:D->Sg->Prop}:MK 0 (some ⟨.par,d⟩::r) fm ds K=OK1 (fm d ds) fun y=>K y.2 (some ⟨.par,y.1⟩::r):=rfl
theorem uK{fm:FM}{ds:List D}{K:D->Sg->Prop}:MK (n+1) (o::r) fm ds K=MK n r fm ds fun e r'=>K e (o::r'):=rfl
theorem uL:RS (bM6 i a b) σ QS=RE b σ fun x σ1=>OK1 (match x with | .val d=>some d | _=>none) fun d=>TK "list" i σ1 (RE a σ1 fun y σ2=>RD σ2 y fun di=>OK1 (match di with | .int k=>some k | _=>none) fun k=>
  MK i σ2 (fun a _=>(bY8 k d a).map fun b=>(b,.non)) [] fun _ σ3=>QS (.nx σ3)):=by
 unfold RS RE RD bM6
 rw[aJ]
 congr 1;funext x
 obtain⟨x,σ1⟩:=x
 cases x with
 | own d=>rfl
 | slot d=>rfl
 | val d=>
   show OK1 _ _=TK _ _ _ _
   rw[bI9]
   dsimp only
   rw[bI]
   simp only[aJ]
   congr 1;congr 1;funext y;congr 1;funext di
   cases di with
   | int k=>
     dsimp only
     rw[aJ]
     show _=MK _ _ _ _ _
     rw[← bU6 (Q:=fun _ σ3=>QS (.nx σ3))]
     rfl
   | _=>rfl
theorem uM{K:D->Prop}:OK1 (match Res.val d with | .val d=>some d | _=>none) K=K d:=rfl
theorem uN{k:Int}{K:Int->Prop}:OK1 (match D.int k with | .int k=>some k | _=>none) K=K k:=rfl
theorem uO{g:DG}:RS (bI0 g a) σ QS=RE a σ fun x σ1=>OK1 (match x with | .val d=>some d | _=>none) fun d=>OK1 (g d σ1) fun σ2=>QS (.nx σ2):=by
 unfold RS RE bI0
 rw[aJ]
 congr 1;funext x
 obtain⟨x,σ1⟩:=x
 cases x with
 | own d=>rfl
 | slot d=>rfl
 | val d=>
   show OK1 ((g d σ1).bind _) _=OK1 (g d σ1) _
   rw[aJ];rfl
theorem aP4{K:Sg->Prop}:OK1 (dgN i d σ) K=PK i σ ⟨.val,d⟩ K:=(aZ3 i σ _ K).symm
theorem mS{gs:DGs}{l:List D}{K:Sg->Prop}:OK1 (zA n gs (.tup l) σ) K=(l.length=n/\OK1 (gs l σ) K):=by
 show OK1 (if l.length=n then gs l σ else none) K=_
 rw[bI]
theorem jI{g:DG}{gs:DGs}{l:List D}{K:Sg->Prop}:OK1 (gZ g gs (d::l) σ) K=OK1 (g d σ) fun σ1=>OK1 (gs l σ1) K:=by
 show OK1 ((g d σ).bind fun σ1=>gs l σ1) K=_
 rw[aJ]
theorem mT{K:Sg->Prop}:OK1 (yZ [] σ) K=K σ:=rfl
theorem cF0:RS (cE7 i j ra) σ QS=RA ra σ fun xs σ1=>VLs xs fun ds=>OK1 (match ds with | [d,e]=>some (d,e) | _=>none) fun p=>(eR σ1 i=true/\eR σ1 j=true/\i≠j)/\QS (.nx ((σ1.set i (some ⟨.val,p.1⟩)).set j (some ⟨.val,p.2⟩))):=by
 unfold RS RA VLs cE7
 simp only[aJ]
 congr 1;funext x;congr 1;funext ds
 match ds with
 | []=>rfl
 | [_]=>rfl
 | [d,e]=>show OK1 (if eR x.2 i=true/\eR x.2 j=true/\i≠j then _ else none) QS=_;rw[bI];rfl
 | _::_::_::_=>rfl
theorem uP{K:D×D->Prop}:OK1 (match [d,e]with | [d,e]=>some (d,e) | _=>none) K=K (d,e):=rfl
end
noncomputable def CK(run:Run)(as:List Sl)(K:Res->List Sl->Prop):Prop:=OK1 (run as) fun y=>K y.1 y.2
noncomputable def AK(σ:Sg)(rs:List Res)(K:List Sl->Prop):Prop:=OK1 (sE σ rs) K
noncomputable def A1(σ:Sg)(r:Res)(K:Sl->Prop):Prop:=OK1 (zE σ r) K
noncomputable def HK:Nat->Sg->(Sl->Prop)->Prop
 | 0,some ⟨m,d⟩::_,K=>K ⟨if m.mt=true then .par else m,d⟩
 | n+1,_::r,K=>HK n r K
 | _,_,_=>False
theorem bU7:∀ (n:Nat) (r:Sg) (K:Sl->Prop),HK n r K=A1 r (.slot n) K
 | 0,[],_=>rfl
 | 0,none::_,_=>rfl
 | 0,some s::_,_=>rfl
 | n+1,[],_=>rfl
 | n+1,_::r,K=>by
   show HK n r K=_
   rw[bU7 n r K]
   show OK1 (match r[n]? with | some (some s)=>some (⟨if s.m.mt=true then .par else s.m,s.d⟩:Sl) | _=>none) K=OK1 (match (_::r)[n+1]? with | some (some s)=>some (⟨if s.m.mt=true then .par else s.m,s.d⟩:Sl) | _=>none) K
   rw[List.getElem?_cons_succ]
noncomputable def UK:Nat->Sg->D->(Sg->Prop)->Prop
 | 0,some ⟨.own,_⟩::r,d,K=>K (some ⟨.own,d⟩::r)
 | 0,some ⟨.par,_⟩::r,d,K=>K (some ⟨.par,d⟩::r)
 | 0,o::r,_,K=>K (o::r)
 | n+1,o::r,d,K=>UK n r d fun r'=>K (o::r')
 | _,[],_,K=>K []
noncomputable def uS(σ:Sg)(i:Nat)(d:D):Sg:=match σ[i]? with
 | some (some s)=>if s.m.mt=true then σ.set i (some ⟨s.m,d⟩)else σ
 | _=>σ
theorem bU8:∀ (n:Nat) (r:Sg) (d:D) (K:Sg->Prop),UK n r d K=K (uS r n d)
 | 0,[],_,_=>rfl
 | n+1,[],_,_=>rfl
 | 0,none::r,d,K=>rfl
 | 0,some ⟨.val,_⟩::r,d,K=>rfl
 | 0,some ⟨.own,_⟩::r,d,K=>rfl
 | 0,some ⟨.par,_⟩::r,d,K=>rfl
 | 0,some ⟨.lent,_⟩::r,d,K=>rfl
 | n+1,o::r,d,K=>by
   show UK n r d (fun r'=>K (o::r'))=_
   rw[bU8 n r d _]
   unfold uS
   rw[List.getElem?_cons_succ]
   cases r[n]? with
   | none=>rfl
   | some x=>cases x with
     | none=>rfl
     | some s=>
       dsimp only
       by_cases h:s.m.mt=true
       ·rw[if_pos h,if_pos h];rfl
       ·rw[if_neg h,if_neg h]
noncomputable def sB:List Res->List Sl->Sg->Sg
 | .slot i::rs,a::as,σ=>sB rs as (uS σ i a.d)
 | _::rs,_::as,σ=>sB rs as σ
 | _,_,σ=>σ
theorem bU9{σ:Sg}{i j:Nat}{d:D}:(uS σ i d)[j]? = (σ[j]?).map fun o=>if j=i then(match o with | some s=>some (if s.m.mt=true then⟨s.m,d⟩else s) | none=>none)else o:=by
 unfold uS
 by_cases hj:j=i
 ·subst hj
  cases h:σ[j]? with
  | none=>dsimp only;rw[h];rfl
  | some o=>
    cases o with
    | none=>dsimp only;rw[h];simp
    | some s=>
      dsimp only
      by_cases hm:s.m.mt=true
      ·rw[if_pos hm,List.getElem?_set_self (List.getElem?_eq_some_iff.mp h).1];simp[hm]
      ·rw[if_neg hm,h];simp[hm]
 ·have:∀ x:Option Sl,(σ.set i x)[j]? = σ[j]?:=fun x=>List.getElem?_set_ne (Ne.symm hj)
  split
  ·split
   ·rw[this];cases σ[j]? <;> simp[hj]
   ·cases σ[j]? <;> simp[hj]
  ·cases σ[j]? <;> simp[hj]
theorem aD0:∀ (rs:List Res) (as:List Sl) (σ:Sg) (j:Nat),dG rs=true->(sB rs as σ)[j]? = (σ[j]?).map (jG rs as j)
 | [],as,σ,j,_=>by cases as<;>(show σ[j]? = _;cases σ[j]? with | none=>rfl | some o=>cases o<;>simp[jG,hU])
 | r::rs,[],σ,j,_=>by cases r<;>(show σ[j]? = _;cases σ[j]? with | none=>rfl | some o=>cases o<;>simp[jG,hU])
 | .val d::rs,a::as,σ,j,h=>aD0 rs as σ j h
 | .own d::rs,a::as,σ,j,h=>aD0 rs as σ j h
 | .slot i::rs,a::as,σ,j,h=>by
   have h':dG rs=true/\aJ8 i rs=false:=by
    unfold dG at h
    rw[Bool.and_eq_true]at h
    exact⟨h.2,by simpa using h.1⟩
   show(sB rs as (uS σ i a.d))[j]? = _
   rw[aD0 rs as _ j h'.1,bU9]
   cases σ[j]? with
   | none=>rfl
   | some o=>
     cases o with
     | none=>by_cases hj:j=i<;>simp[jG,hj]
     | some s=>
       by_cases hj:j=i
       ·subst hj
        have hl:hU j rs as=none:=by
         cases q:hU j rs as with
         | none=>rfl
         | some b=>
           obtain⟨k,h1,_⟩:=eO q
           rw[lQ h1]at h';cases h'.2
        simp[jG,hl,hU]
       ·have:¬ i=j:=fun z=>hj z.symm
        simp[jG,hj,hU,this]
theorem bV0{rs:List Res}{as:List Sl}{σ:Sg}(h:dG rs=true):iX rs as 0 σ=sB rs as σ:=by
 apply List.ext_getElem?
 intro j
 rw[hV,aD0 rs as σ j h,Nat.zero_add]
noncomputable def BK(rs:List Res)(as:List Sl)(σ:Sg)(K:Sg->Prop):Prop:=K (sB rs as σ)
noncomputable def bM7(as:List Sl)(K:Res->List Sl->Prop):Out->Prop
 | .nx σ=>K (.val .non) (pD as σ)
 | .rt r σ=>OK1 (bT4 σ r) fun r'=>K r' (pD as σ)
 | _=>False
section
variable{σ:Sg}{Q:Res->Sg->Prop}{ra:DA}{d:D}{i n:Nat}{r:Sg}{o:Option Sl}
theorem mU{run:Run}:RE (aX n run ra) σ Q=RA ra σ fun rs σ1=>AK σ1 rs fun as=>(as.length=n/\dG rs=true)/\CK run as fun y as'=>BK rs as' σ1 fun σ2=>Q y σ2:=by
 unfold RE RA AK CK aX
 simp only[aJ,bI,bE]
 congr 1;funext x;congr 1;funext as
 apply propext
 constructor
 ·rintro⟨h,q⟩
  refine⟨h,dL q fun y q=>?_⟩
  unfold BK;rw[← bV0 h.2];exact q
 ·rintro⟨h,q⟩
  refine⟨h,dL q fun y q=>?_⟩
  unfold BK at q;rw[← bV0 h.2]at q;exact q
theorem uQ{as:List Sl}{K:Sg->Prop}:BK [] as σ K=K σ:=by cases as<;>rfl
theorem uR{rs:List Res}{a:Sl}{as:List Sl}{K:Sg->Prop}:BK (.val d::rs) (a::as) σ K=BK rs as σ K:=rfl
theorem uT{rs:List Res}{a:Sl}{as:List Sl}{K:Sg->Prop}:BK (.own d::rs) (a::as) σ K=BK rs as σ K:=rfl
theorem uU{rs:List Res}{m:Md}{as:List Sl}{K:Sg->Prop}:BK (.slot i::rs) (⟨m,d⟩::as) σ K=UK i σ d fun σ'=>BK rs as σ' K:=by
 rw[bU8];rfl
theorem uV{e:D}{K:Sg->Prop}:UK 0 (some ⟨.own,e⟩::r) d K=K (some ⟨.own,d⟩::r):=rfl
theorem uW{e:D}{K:Sg->Prop}:UK 0 (some ⟨.par,e⟩::r) d K=K (some ⟨.par,d⟩::r):=rfl
theorem uX{e:D}{K:Sg->Prop}:UK 0 (some ⟨.val,e⟩::r) d K=K (some ⟨.val,e⟩::r):=rfl
theorem uY{e:D}{K:Sg->Prop}:UK 0 (some ⟨.lent,e⟩::r) d K=K (some ⟨.lent,e⟩::r):=rfl
theorem uZ{K:Sg->Prop}:UK (n+1) (o::r) d K=UK n r d fun r'=>K (o::r'):=rfl
theorem dH{len:Nat}{b:DS}{as:List Sl}{K:Res->List Sl->Prop}:CK (pE len b) as K=RS b (ini len as) (bM7 as K):=by
 unfold CK RS pE
 rw[aJ]
 congr 1;funext o
 cases o with
 | rt x s=>show OK1 ((bT4 s x).bind _) _=OK1 (bT4 s x) _;rw[aJ];rfl
 | _=>rfl
noncomputable def FSK:Nat->Sg->(Res->Prop)->Prop
 | 0,some ⟨.own,d⟩::_,K=>K (.own d)
 | 0,some ⟨.val,d⟩::_,K=>K (.val d)
 | n+1,_::r,K=>FSK n r K
 | _,_,_=>False
theorem bD2:∀ (n:Nat) (r:Sg) (K:Res->Prop),FSK n r K=OK1 (bT4 r (.slot n)) K
 | 0,[],_=>rfl
 | 0,none::_,_=>rfl
 | 0,some ⟨.val,_⟩::r,K=>rfl
 | 0,some ⟨.own,_⟩::r,K=>rfl
 | 0,some ⟨.par,_⟩::r,K=>rfl
 | 0,some ⟨.lent,_⟩::r,K=>rfl
 | n+1,[],_=>rfl
 | n+1,o::r,K=>by
   show FSK n r K=_
   rw[bD2 n r K]
   show OK1 (match r[n]? with | some (some s)=>if s.m=.own then some (Res.own s.d)else if s.m=.val then some (.val s.d)else none | _=>none) K=OK1 (match (o::r)[n+1]? with | some (some s)=>if s.m=.own then some (Res.own s.d)else if s.m=.val then some (.val s.d)else none | _=>none) K
   rw[List.getElem?_cons_succ]
section
variable{as:List Sl}{K:Res->List Sl->Prop}{KR:Res->Prop}
theorem mV:bM7 as K (.nx σ)=K (.val .non) (pD as σ):=rfl
theorem mW:bM7 as K (.rt (.val d) σ)=K (.val d) (pD as σ):=rfl
theorem mX:bM7 as K (.rt (.own d) σ)=K (.own d) (pD as σ):=rfl
theorem mY:bM7 as K (.rt (.slot i) σ)=FSK i σ fun r=>K r (pD as σ):=(bD2 i σ _).symm
theorem vA:FSK 0 (some ⟨.own,d⟩::r) KR=KR (.own d):=rfl
theorem vB:FSK 0 (some ⟨.val,d⟩::r) KR=KR (.val d):=rfl
theorem vC:FSK (n+1) (o::r) KR=FSK n r KR:=rfl
theorem mZ:pD [] σ=[]:=rfl
theorem nA{s:Sl}:pD (⟨.val,d⟩::as) (some s::r)=⟨.val,d⟩::pD as r:=rfl
theorem nB{s:Sl}:pD (⟨.par,d⟩::as) (some s::r)=s::pD as r:=rfl
theorem nD{s:Sl}:pD (⟨.lent,d⟩::as) (some s::r)=s::pD as r:=rfl
end
theorem vD{K:List Sl->Prop}:AK σ [] K=K []:=rfl
theorem vE{x:Res}{xs:List Res}{K:List Sl->Prop}:AK σ (x::xs) K=A1 σ x fun a=>AK σ xs fun as=>K (a::as):=by
 show OK1 ((zE σ x).bind fun a=>(sE σ xs).bind fun as=>some (a::as)) K=_
 unfold AK A1;simp only[aJ,bE]
theorem vF{K:Sl->Prop}:A1 σ (.val d) K=K ⟨.val,d⟩:=rfl
theorem vG{K:Sl->Prop}:A1 σ (.own d) K=K ⟨.par,d⟩:=rfl
theorem vH{K:Sl->Prop}:A1 σ (.slot i) K=HK i σ K:=(bU7 i σ K).symm
theorem vI{K:Sl->Prop}:HK 0 (some ⟨.own,d⟩::r) K=K ⟨.par,d⟩:=rfl
theorem vJ{K:Sl->Prop}:HK 0 (some ⟨.par,d⟩::r) K=K ⟨.par,d⟩:=rfl
theorem vK{K:Sl->Prop}:HK 0 (some ⟨.lent,d⟩::r) K=K ⟨.lent,d⟩:=rfl
theorem vL{K:Sl->Prop}:HK (n+1) (o::r) K=HK n r K:=rfl
end
section
variable{σ:Sg}{QS:Out->Prop}{Q:Res->Sg->Prop}{ri:DI}{g:DG}{b:DS}{a:DE}{ra:DA}
theorem bV1:RS (aZ0 ri g b) σ QS=RI ri σ fun items l σ1=>OK1 (aY9 g b items (lendO l σ1)) fun o=>QS (aC2 l σ1 o):=by
 unfold RS RI aZ0;simp only[aJ,bE]
theorem aP5{K:List D->Option Nat->Sg->Prop}:RI (dIt a) σ K=RE a σ fun x σ1=>RD σ1 x fun d=>OK1 (pR d) fun l=>K l (match x with | .slot i=>some i | _=>none) σ1:=by
 unfold RI RE RD dIt;simp only[aJ,bE];try rfl
noncomputable def cF1:List D->Option (List D)
 | [.int j]=>if -(2 ^ 62)<=j/\j < 2 ^ 62 then some (aJ7 0 j.toNat)else none
 | [.int i,.int j]=>if(-(2 ^ 62)<=i/\i < 2 ^ 62) /\ -(2 ^ 62)<=j/\j < 2 ^ 62 then some (aJ7 i (j-i).toNat)else none
 | _=>none
theorem vM{K:List D->Option Nat->Sg->Prop}:RI (bM1 ra) σ K=RA ra σ fun xs σ1=>RDs σ1 xs fun ds=>OK1 (cF1 ds) fun l=>K l none σ1:=by
 unfold RI RA RDs bM1
 simp only[aJ]
 congr 1;funext x;congr 1;funext ds
 match ds with
 | []=>rfl
 | [.int j]=>show OK1 (if -(2 ^ 62)<=j/\j < 2 ^ 62 then _ else none) _=OK1 (if -(2 ^ 62)<=j/\j < 2 ^ 62 then _ else none) _;rw[bI,bI];rfl
 | [.int i,.int j]=>show OK1 (if(-(2 ^ 62)<=i/\i < 2 ^ 62) /\ -(2 ^ 62)<=j/\j < 2 ^ 62 then _ else none) _=OK1 (if(-(2 ^ 62)<=i/\i < 2 ^ 62) /\ -(2 ^ 62)<=j/\j < 2 ^ 62 then _ else none) _;rw[bI,bI];rfl
 | [.non]=>rfl
 | [.bl _]=>rfl
 | [.str _]=>rfl
 | [.tup _]=>rfl
 | [.lst _]=>rfl
 | [.dic _ _]=>rfl
 | .non::_::_=>rfl
 | .bl _::_::_=>rfl
 | .str _::_::_=>rfl
 | .tup _::_::_=>rfl
 | .lst _::_::_=>rfl
 | .dic _ _::_::_=>rfl
 | .int _::.non::_=>rfl
 | .int _::.bl _::_=>rfl
 | .int _::.str _::_=>rfl
 | .int _::.tup _::_=>rfl
 | .int _::.lst _::_=>rfl
 | .int _::.dic _ _::_=>rfl
 | .int _::.int _::_::_=>rfl
theorem nE{j:Int}{K:List D->Prop}:OK1 (cF1 [.int j]) K=((-(2 ^ 62)<=j/\j < 2 ^ 62)/\K (aJ7 0 j.toNat)):=by
 show OK1 (if -(2 ^ 62)<=j/\j < 2 ^ 62 then some (aJ7 0 j.toNat)else none) K=_
 rw[bI];rfl
theorem bJ0{items:List D}(P:Nat->Sg->Prop)(h0:P 0 σ)(hs:∀ i d σ,items[i]? = some d->P i σ->OK1 (g d σ) fun σ1=>RS b σ1 fun o=>∃ σ2,(o=.nx σ2\/o=.ct σ2)/\P (i+1) σ2){K:Out->Prop}(k:∀ σ',P items.length σ'->K (.nx σ')):OK1 (aY9 g b items σ) K:=by
 induction items generalizing P σ with
 | nil=>exact k σ h0
 | cons d r ih=>
   show OK1 ((g d σ).bind _) K
   rw[aJ]
   refine dL (hs 0 d σ rfl h0) fun σ1 h1=>?_
   rw[aJ]
   refine dL h1 fun o h2=>?_
   obtain⟨σ2,ho,p2⟩:=h2
   have go:OK1 (aY9 g b r σ2) K:=ih (fun i=>P (i+1)) p2 (fun i d σ e p=>hs (i+1) d σ (by simpa using e) p) fun σ' p=>k σ' (by simpa using p)
   rcases ho with rfl | rfl
   ·exact go
   ·exact go
theorem pV{c:DT}{K:Out->Prop}(P:Nat->Sg->Prop)(hs:∀ m σ,P m σ->RT c σ fun t σ1=>if t=true then RS b σ1 fun o=>(∃ σ2 m',(o=.nx σ2\/o=.ct σ2)/\m' < m/\P m' σ2)\/(∃ x σ2,o=.rt x σ2/\K (.rt x σ2))\/(∃ σ2,o=.bk σ2/\K (.nx σ2))else K (.nx σ1)) :
  ∀ (n m:Nat) (σ:Sg),m < n->P m σ->OK1 (kS c b n σ) K
 | 0,m,σ,h,_=>by omega
 | n+1,m,σ,h,p=>by
   show OK1 ((c σ).bind _) K
   rw[aJ]
   refine dL (hs m σ p) fun x h1=>?_
   dsimp only at h1
   by_cases ht:x.1=true
   ·rw[if_pos ht]at h1 ⊢
    rw[aJ]
    refine dL h1 fun o h2=>?_
    rcases h2 with⟨σ2,m',ho,hm,p2⟩ | ⟨x,σ2,rfl,q⟩ | ⟨σ2,rfl,q⟩
    ·have go:=pV P hs n m' σ2 (by omega) p2
     rcases ho with rfl | rfl
     ·exact go
     ·exact go
    ·exact q
    ·exact q
   ·rw[if_neg ht]at h1 ⊢
    exact h1
theorem aP6{c:DT}(P:Nat->Sg->Prop)(m:Nat)(hm:m < 1000000)(h0:P m σ)(hs:∀ m σ,P m σ->RT c σ fun t σ1=>if t=true then RS b σ1 fun o=>(∃ σ2 m',(o=.nx σ2\/o=.ct σ2)/\m' < m/\P m' σ2)\/(∃ x σ2,o=.rt x σ2/\QS (.rt x σ2))\/(∃ σ2,o=.bk σ2/\QS (.nx σ2))else QS (.nx σ1)):OK1 (kS c b bM2 σ) QS:=
 pV P hs bM2 m σ (Nat.lt_of_lt_of_le hm bI3) h0
theorem bJ1{ow:List Nat}{t:DT}{e:DE}:RE (fY ow ri g t e) σ Q=RI ri σ fun items l σ1=>items.length<=sizeLine/\OK1 (zD ow g t e items (bN ow (lendO l σ1))) fun y=>Q (.own (.lst y.1)) (aJ6 l σ1 (jE ow (lendO l σ1) y.2)):=by
 unfold RE RI fY;simp only[aJ,bI,bE]
theorem nF{ow:List Nat}{t:DT}{e:DE}{K:List D×Sg->Prop}:∀ (items:List D) (τ:Sg) (P:Nat->List D->Sg->Prop),P 0 [] τ ->
  (∀ i d acc τ,items[i]? = some d->P i acc τ->OK1 (g d τ) fun τ1=>RT t τ1 fun b τ2=>if b=true then RE e τ2 fun r τ3=>∃ v,r=.val v/\P (i+1) (acc++[v]) (bN ow τ3)else P (i+1) acc (bN ow τ2)) ->
  (∀ acc τ,P items.length acc τ->K (acc,τ))->OK1 (zD ow g t e items τ) K
 | [],τ,P,h0,_,k=>k [] τ h0
 | d::r,τ,P,h0,hs,k=>by
   show OK1 ((g d τ).bind _) K
   rw[aJ]
   refine dL (hs 0 d [] τ rfl h0) fun τ1 h1=>?_
   rw[aJ]
   refine dL h1 fun x h2=>?_
   dsimp only at h2
   by_cases ht:x.1=true
   ·rw[if_pos ht]at h2 ⊢
    rw[aJ]
    refine dL h2 fun y h3=>?_
    obtain⟨v,hv,p⟩:=h3
    rw[hv]
    dsimp only
    rw[aJ]
    exact nF r _ (fun i acc τ=>P (i+1) (v::acc) τ) p (fun i d' acc τ' e' p'=>by simpa using hs (i+1) d' (v::acc) τ' (by simpa using e') p') fun acc τ' p'=>k (v::acc) τ' (by simpa using p')
   ·rw[if_neg ht]at h2 ⊢
    exact nF r _ (fun i acc τ=>P (i+1) acc τ) h2 (fun i d' acc τ' e' p'=>hs (i+1) d' acc τ' (by simpa using e') p') fun acc τ' p'=>k acc τ' (by simpa using p')
end
end Dv
namespace Dv
open PySem L2
section
variable{i j:Int}{l m:List D}{K:Res->Prop}{d e:D}{σ:Sg}{Q:Res->Sg->Prop}
theorem vN:OK1 (iM (.int i) (.int j)) K=K (.val (.int (i+j))):=rfl
theorem nG:OK1 (iM (.lst l) (.lst m)) K=(l.length+m.length<=sizeLine/\K (.own (.lst (l++m)))):=by
 show OK1 (if l.length+m.length<=sizeLine then some (Res.own (.lst (l++m)))else none) K=_;rw[bI];rfl
theorem nH:OK1 (iM (.tup l) (.tup m)) K=(l.length+m.length<=sizeLine/\K (.val (.tup (l++m)))):=by
 show OK1 (if l.length+m.length<=sizeLine then some (Res.val (.tup (l++m)))else none) K=_;rw[bI];rfl
theorem nJ{x y:Str}:OK1 (iM (.str x) (.str y)) K=(x.length+y.length<=sizeLine/\K (.val (.str (x++y)))):=by
 show OK1 (if x.length+y.length<=sizeLine then some (Res.val (.str (x++y)))else none) K=_;rw[bI];rfl
theorem vO:OK1 (cH9 (.int i) (.int j)) K=K (.val (.int (i-j))):=rfl
theorem vP:OK1 (zH (.int i) (.int j)) K=(pF i j/\K (.val (.int (i*j)))):=@bI _ (pF i j) (Classical.propDecidable _) _ _
theorem vQ:OK1 (bY9 (.int i) (.int j)) K=(aI1 i j/\K (.val (.int (i / j)))):=@bI _ (aI1 i j) (Classical.propDecidable _) _ _
theorem vR:OK1 (aJ9 (.int i) (.int j)) K=(0 < j/\K (.val (.int (i % j)))):=@bI _ (0 < j) (Classical.propDecidable _) _ _
theorem vS:OK1 (cC0 (.int i) (.int j)) K=(bL7 i j/\K (.val (.int (i ^ j.toNat)))):=@bI _ (bL7 i j) (Classical.propDecidable _) _ _
theorem aP7:OK1 (ltI (.int i) (.int j)) K=K (.val (.bl (decide (i < j)))):=rfl
theorem aP8:OK1 (leI (.int i) (.int j)) K=K (.val (.bl (decide (i<=j)))):=rfl
theorem aP9:OK1 (gtI (.int i) (.int j)) K=K (.val (.bl (decide (j < i)))):=rfl
theorem aQ0:OK1 (geI (.int i) (.int j)) K=K (.val (.bl (decide (j<=i)))):=rfl
theorem vT:OK1 (cI0 (.int i)) K=K (.val (.int (-i))):=rfl
theorem vU:OK1 (cI2 (.int i)) K=K (.val (.int (PySem.Builtin.Int.intBits i))):=rfl
theorem vV:OK1 (ixD (.lst l) (.int i)) K=OK1 (atI l i) fun d=>K (.val d):=by
 show OK1 ((atI l i).map Res.val) K=_;rw[sJ]
theorem vW:OK1 (ixD (.tup l) (.int i)) K=OK1 (atI l i) fun d=>K (.val d):=by
 show OK1 ((atI l i).map Res.val) K=_;rw[sJ]
theorem nK:OK1 (pT [.lst l]) K=K (.val (.int l.length)):=rfl
theorem nM:OK1 (pT [.tup l]) K=K (.val (.int l.length)):=rfl
theorem vX:OK1 (bM4 [.int i]) K=K (.val (.int i)):=rfl
theorem nO{b:Bool}:OK1 (bM4 [.bl b]) K=K (.val (.int (if b then 1 else 0))):=rfl
theorem vY:OK1 (cC1 [.int i,.int j]) K=K (.val (.int (if j > i then j else i))):=rfl
theorem vZ:OK1 (cC2 [.int i,.int j]) K=K (.val (.int (if j < i then j else i))):=rfl
theorem nP:OK1 (qU [.lst l]) K=K (.own (.lst l)):=rfl
theorem jJ:OK1 (qU [.tup l]) K=K (.own (.lst l)):=rfl
theorem wA:OK1 (sG [.lst l]) K=K (.val (.tup l)):=rfl
theorem nQ:OK1 (sG [.tup l]) K=K (.val (.tup l)):=rfl
theorem aQ1:OK1 (eqD false (.int i) (.int j)) K=K (.val (.bl (decide (i=j)))):=by
 have h:yJ (.int i) (.int j)=decide (i=j):=by
  show(i==j)=_
  rw[Bool.eq_iff_iff];simp
 show OK1 (if cQ (.int i)=true/\cQ (.int j)=true then some (Res.val (.bl (if false then !yJ (.int i) (.int j)else yJ (.int i) (.int j))))else none) K=_
 rw[if_pos ⟨rfl,rfl⟩,h];rfl
theorem wB{c:String}:OK1 (aK0 c (.int i)) K=K (.val (.bl (kA "int" c))):=rfl
theorem wC{c:String}{b:Bool}:OK1 (aK0 c (.bl b)) K=K (.val (.bl (kA "bool" c))):=rfl
theorem wD{k:Int}{K:D×D->Prop}:OK1 ((bY8 k e (.lst l)).map fun b=>(b,D.non)) K=OK1 (ixN l.length k) fun j=>K (.lst (l.set j e),.non):=by
 show OK1 (((ixN l.length k).map fun j=>D.lst (l.set j e)).map fun b=>(b,D.non)) K=_
 rw[sJ,sJ]
theorem wE{K:D×D->Prop}:OK1 (bM5 (.lst l) [e]) K=(l.length < sizeLine/\K (.lst (l++[e]),.non)):=by
 show OK1 (if l.length < sizeLine then some (D.lst (l++[e]),D.non)else none) K=_
 rw[bI];rfl
theorem wF{bs:List Bool}:OK1 (bU0 [.lst (bs.map D.bl)]) K=K (.val (.bl (bs.all id))):=by
 show OK1 ((aI0 (bs.map D.bl)).map fun bs=>Res.val (.bl (bs.all id))) K=_
 rw[aO1];rfl
noncomputable def SK(d:D)(lo hi:Option Int)(K:Res->Prop):Prop:=OK1 (slD d lo hi) K
theorem aQ2{a:DE}{x y:DO}:RE (dSl a x y) σ Q=RE a σ fun r σ1=>RO x σ1 fun lo σ2=>RO y σ2 fun hi σ3=>RD σ3 r fun d=>SK d lo hi fun v=>Q v σ3:=by
 unfold RE RO RD SK dSl;simp only[aJ,bE]
theorem wG{K:Option Int->Sg->Prop}:RO aH9 σ K=K none σ:=rfl
theorem bV2{a:DE}{K:Option Int->Sg->Prop}:RO (dP a) σ K=RE a σ fun x σ1=>RD σ1 x fun d=>OK1 (match d with | .int k=>some k | _=>none) fun k=>K (some k) σ1:=by
 unfold RO RE RD dP
 simp only[aJ]
 congr 1;funext x;congr 1;funext d
 cases d<;>rfl
theorem wH{lo hi:Option Int}:SK (.lst l) lo hi K=K (.own (.lst (aU9 l lo hi))):=rfl
theorem wI{lo hi:Option Int}:SK (.tup l) lo hi K=K (.val (.tup (aU9 l lo hi))):=rfl
theorem wJ{x:D}{K:D->Prop}:OK1 (atI (x::l) 0) K=K x:=by
 show OK1 ((ixN (x::l).length 0).bind fun j=>(x::l)[j]?) K=_
 unfold ixN
 rw[if_pos (Int.le_refl 0),if_pos (by first | (simp;done) | (simp;omega))];rfl
theorem wK{x y:D}{K:D->Prop}:OK1 (atI (x::y::l) 1) K=K y:=by
 show OK1 ((ixN (x::y::l).length 1).bind fun j=>(x::y::l)[j]?) K=_
 unfold ixN
 rw[if_pos (by decide),if_pos (by first | (simp;done) | (simp;omega))];rfl
theorem wL{x:D}{K:Nat->Prop}:OK1 (ixN (x::l).length 0) K=K 0:=by
 unfold ixN
 rw[if_pos (Int.le_refl 0),if_pos (by first | (simp;done) | (simp;omega))];rfl
theorem wM{x y:D}{K:Nat->Prop}:OK1 (ixN (x::y::l).length 1) K=K 1:=by
 unfold ixN
 rw[if_pos (by decide),if_pos (by first | (simp;done) | (simp;omega))];rfl
theorem wN{i j:Int}(h1:-(2 ^ 64) < j)(h2:j < 2 ^ 64):pF i j=True:=eq_true (.inl (.inr ⟨h1,h2⟩))
theorem wO{i j:Int}(h1:-(2 ^ 64) < i)(h2:i < 2 ^ 64):pF i j=True:=eq_true (.inl (.inl ⟨h1,h2⟩))
theorem wP{i:Int}{p:Prop}[Decidable p]:pF i (if p then 1 else 0)=True:=eq_true (.inl (.inr (by split<;>decide)))
theorem aI3{i j:Int}(h1:0 < j)(h2:j < 18446744073709551616):aI1 i j=True:=eq_true ⟨h1,h2⟩
theorem aQ3{i j:Int}(h1:0<=j)(h2:j<=1000000)(h3:-18446744073709551616 < i)(h4:i < 18446744073709551616):bL7 i j=True:=eq_true ⟨h1,h2,by show i.natAbs < 18446744073709551616;omega⟩
theorem wQ{σ:Sg}:lendO none σ=σ:=rfl
theorem aQ4{σ:Sg}{o:Out}:aC2 none σ o=o:=by cases o<;>rfl
theorem wR{σ σ':Sg}:aJ6 none σ σ'=σ':=rfl
theorem wS:(tyD "list" (.lst l)=true)=True:=by simp[tyD]
end
end Dv
namespace Dv
open PySem L2
noncomputable def qW:List D->Option (List Str)
 | []=>some []
 | .str s::r=>(qW r).bind fun l=>some (s::l)
 | _::_=>none
theorem qX:∀ {l:List D} {zs:List Str},qW l=some zs->l=zs.map D.str
 | [],_,h=>by cases h;rfl
 | .str s::r,_,h=>by
   obtain⟨l,e1,e2⟩:=aC h
   cases e2
   rw[qX e1];rfl
 | .non::_,_,h=>by cases h
 | .int _::_,_,h=>by cases h
 | .bl _::_,_,h=>by cases h
 | .tup _::_,_,h=>by cases h
 | .lst _::_,_,h=>by cases h
 | .dic _ _::_,_,h=>by cases h
theorem wT(zs:List Str):qW (zs.map D.str)=some zs:=by
 induction zs with
 | nil=>rfl
 | cons b r ih=>show(qW (r.map D.str)).bind _=_;rw[ih];rfl
noncomputable def aQ5(sep:Str):F1:=fun d=>match d with
 | .lst l=>(qW l).bind fun ys=>if(ys.map (·.length)).sum+ys.length*sep.length<=16777216 then some (.val (.str (PySem.Txt.join sep ys)))else none
 | _=>none
theorem bJ2{X:Cx}{e:Expr}{sep:Str}{r:DE}(K:PySem.W.Frag)(h:∀ Γ,PE X e (tBM K "str" (aW6 K) (tC (.str sep)) (dTA Γ (aD r aW)))):GE X e (aJ5 (aQ5 sep) r):=.mk fun Γ=>peW (h Γ) fun σV H Q hq=>by
 have hp:cB5 (fun x H Q=>aW6 K (.str sep) [x] H Q) (aQ5 sep):=by
  intro H d x Q res v1 e k
  unfold aQ5 at e
  split at e
  ·obtain⟨ys,e1,e⟩:=aC e
   split at e
   ·rename_i hs
    cases e
    obtain⟨p,xs,rfl,h1,r1⟩:=gU v1
    rw[qX e1]at r1
    rw[r1.strs_inv]at h1
    exact⟨sep,p,ys,rfl,rfl,iO h1,hs,k _ H (.refl _) (.str _)⟩
   ·cases e
  ·cases e
 obtain⟨σ,ok,res,σ',e,k⟩:=hq
 obtain⟨⟨x,σ1⟩,e1,e⟩:=aC e
 obtain⟨d1,e3,e⟩:=aC e
 obtain⟨r,e5,e⟩:=aC e
 cases e
 refine⟨rfl,σ,ok,[x],σ1,?_,fun vs H1 ok1 r1 st1 _=>?_⟩
 ·show((_:Option _).bind _)=_
  rw[e1];rfl
 ·cases r1 with
  | cons r1 t=>
    cases t
    refine hp H1 d1 _ Q _ (r1.vw ok1 e3) e5 fun v H' sm nw=>?_
    exact k v H' (ok1.same sm) (nw.res ok1) (st1.trans (.same sm)) (nw.frh.back st1)
theorem bJ3{sep:Str}{zs:List Str}{K:Res->Prop}:OK1 (aQ5 sep (.lst (zs.map D.str))) K=((zs.map (·.length)).sum+zs.length*sep.length<=16777216/\K (.val (.str (PySem.Txt.join sep zs)))):=by
 show OK1 ((qW (zs.map D.str)).bind _) K=_
 rw[wT]
 show OK1 (if _ then _ else none) K=_
 rw[bI];rfl
theorem aZ4{X:Cx}(K:PySem.W.Frag)(hK:X.K=K):MtR X "str.join" (aW6 K):=by rw[← hK];exact bG8
noncomputable def cI8:FM:=fun d ds=>match d,ds with
 | .lst l,[.str z]=>(qW l).bind fun zs=>if z∈zs/\zs.Nodup then some (.lst ((zs.erase z).map D.str),.non)else none
 | _,_=>none
noncomputable def nv1(σ:Sg):Res->Option D
 | .own d=>some d
 | .slot i=>match σ[i]? with
   | some (some s)=>if s.m=.val then none else some s.d
   | _=>none
 | .val _=>none
noncomputable def nvs(σ:Sg):List Res->Option (List D)
 | []=>some []
 | r::rs=>(nv1 σ r).bind fun d=>(nvs σ rs).bind fun ds=>some (d::ds)
noncomputable def cI3:FN:=fun ds=>match ds with
 | [.lst l]=>some (.own (.lst l.reverse))
 | _=>none
noncomputable def cF2(l m:List D):List D:=(l.zip m).map fun p=>.tup [p.1,p.2]
noncomputable def cI4:FN:=fun ds=>match ds with
 | [.lst l,.lst m]=>some (.val (.tup (cF2 l m)))
 | _=>none
section
variable{σ:Sg}{Q:Res->Sg->Prop}{ra:DA}
noncomputable def NV(σ:Sg)(rs:List Res)(K:List D->Prop):Prop:=OK1 (nvs σ rs) K
noncomputable def N1(σ:Sg)(r:Res)(K:D->Prop):Prop:=OK1 (nv1 σ r) K
theorem wU{K:List D->Prop}:NV σ [] K=K []:=rfl
theorem wV{d:D}{K:D->Prop}:N1 σ (.own d) K=K d:=rfl
noncomputable def GN:Nat->Sg->(D->Prop)->Prop
 | 0,some ⟨m,d⟩::_,K=>if m=.val then False else K d
 | n+1,_::r,K=>GN n r K
 | _,_,_=>False
theorem wW{d:D}{r:Sg}{K:D->Prop}:GN 0 (some ⟨.own,d⟩::r) K=K d:=rfl
theorem wX{d:D}{r:Sg}{K:D->Prop}:GN 0 (some ⟨.par,d⟩::r) K=K d:=rfl
theorem wY{d:D}{r:Sg}{K:D->Prop}:GN 0 (some ⟨.lent,d⟩::r) K=K d:=rfl
theorem wZ{n:Nat}{o:Option Sl}{r:Sg}{K:D->Prop}:GN (n+1) (o::r) K=GN n r K:=rfl
theorem xA{l:List D}{K:Res->Prop}:OK1 (cI3 [.lst l]) K=K (.own (.lst l.reverse)):=rfl
theorem xB{l m:List D}{K:Res->Prop}:OK1 (cI4 [.lst l,.lst m]) K=K (.val (.tup (cF2 l m))):=rfl
end
end Dv
namespace PySem
section
variable{prog:Program}{w:World}{A:Around}{E:Value->Shared->Prop}{s:Shared}
end
end PySem
namespace L2
open PySem PyProof.Rows
section
variable{X:Cx}{pins:List (Addr×Obj)}{σ:St}{H:Hp}{s:Shared}{h':Heap}{ch:List Addr}
theorem Inv.spun{t':Nat}{a:Addr}{o:HO}(I:Inv X pins σ H s)(hf:∀ b∈ch,aK7 X pins H b)(k:∀ b u,b∉ch->s.heap.get? b=some u->h'.get? b=some u)(hp:s.heap.objs.size<=a)
  (new:cT X.prog X.w (upd H a o) h' a o):Inv X pins σ (upd H a o) {s with heap:=h',toks:=t'}:=by
 have ha:H a=none:=I.hok.fresh hp
 have nch:∀ b u,H b=some u->b∉ch:=fun b u e z=>by rw[(hf b z).1]at e;cases e
 refine I.step (g':=s.gens) (d':=s.drawn) (ch:=ch) (fun b hb=>?_) (fun b u _ _ hc e _=>k b u hc e) (fun b u _ _ hc e _=>⟨u.slots,k b u hc e⟩) (fun b u _ e n=>?_) (fun b u hc e=>⟨u,k b u hc e⟩)
  (fun b xs e=>by rw[aH (aV e ha)];exact e) (fun b u v e=>by rw[aH (aV e ha)];exact e) (fun b ps e=>⟨#[],by rw[aH (aV e ha),e];simp⟩) (fun m hm=>?_) (fun b u e=>?_) I.bare
 ·obtain⟨f0,f1,f2,f3,f4,f5⟩:=hf b hb
  exact⟨f3,f1,f4,f5⟩
 ·rw[aH (Nat.ne_of_lt (Nat.lt_of_lt_of_le (Heap.lt_size e) hp))];exact n
 ·obtain⟨u,es,ep,ho,r⟩:=hm
  exact⟨u,es,ep,k _ u (fun z=>(hf _ z).2.1 rfl) ho,r⟩
 ·by_cases hb:b=a
  ·subst hb;rw[aT]at e;cases e;exact new
  ·rw[aH hb]at e
   refine(I.hok b u e).stay (fun c v hc q=>k c v ?_ q) (fun c q=>by rw[aH (aV q ha)];exact q) fun c xs q=>by rw[aH (aV q ha)];exact q
   rcases hc with z | z
   ·rw[z];exact nch b u e
   ·exact nch c _ z
theorem Inv.spun0{t':Nat}(I:Inv X pins σ H s)(hf:∀ b∈ch,aK7 X pins H b)(k:∀ b u,b∉ch->s.heap.get? b=some u->h'.get? b=some u):Inv X pins σ H {s with heap:=h',toks:=t'}:=by
 have nch:∀ b u,H b=some u->b∉ch:=fun b u e z=>by rw[(hf b z).1]at e;cases e
 refine I.step (g':=s.gens) (d':=s.drawn) (ch:=ch) (fun b hb=>?_) (fun b u _ _ hc e _=>k b u hc e) (fun b u _ _ hc e _=>⟨u.slots,k b u hc e⟩) (fun b u _ e n=>n) (fun b u hc e=>⟨u,k b u hc e⟩)
  (fun b xs e=>e) (fun b u v e=>e) (fun b ps e=>⟨#[],by rw[e];simp⟩) (fun m hm=>?_) (fun b u e=>?_) I.bare
 ·obtain⟨f0,f1,f2,f3,f4,f5⟩:=hf b hb
  exact⟨f3,f1,f4,f5⟩
 ·obtain⟨u,es,ep,ho,r⟩:=hm
  exact⟨u,es,ep,k _ u (fun z=>(hf _ z).2.1 rfl) ho,r⟩
 ·refine(I.hok b u e).stay (fun c v hc q=>k c v ?_ q) (fun c q=>q) fun c xs q=>q
  rcases hc with z | z
  ·rw[z];exact nch b u e
  ·exact nch c _ z
end
end L2
namespace PySem
open AutoSeq1 (wpAny_loadPart')
section
variable{prog:Program}{w:World}{A:Around}{E:Value->Shared->Prop}{s:Shared}
end
end PySem
namespace L2
open PySem PyProof.Rows
section
variable{X:Cx}
end
end L2
namespace Dv
open PySem L2 Mr
section
variable{P:Program}{w:World}{K:PySem.W.Frag}{mg:Str->Option Value}{base:Heap}
end
section
variable{K:PySem.W.Frag}{H:Hp}{C fI:Addr}{E:XK}
end
section
variable{K:PySem.W.Frag}{H:Hp}{C fI:Addr}{E:XK}
end
end Dv
namespace Dv
open PySem L2
noncomputable def cI5:D->Option (List D)
 | .lst l=>some l
 | .tup l=>some l
 | _=>none
end Dv
namespace Mr
open PySem L2
noncomputable def top(i:Nat):Stmt:=PySem.Challenge.pw_mostrows_k13_cut_kept_made.main.body.getD i (.Pass ⟨0,0,0,0⟩)
noncomputable abbrev xC:Stmt:=top 8
noncomputable abbrev pW:Stmt:=top 9
noncomputable abbrev nR:Stmt:=top 11
noncomputable abbrev nT:Stmt:=top 10
noncomputable abbrev pX:Stmt:=top 12
noncomputable abbrev nU:Stmt:=top 13
noncomputable abbrev nV:Stmt:=top 14
noncomputable abbrev iS:Stmt:=top 15
noncomputable abbrev aD1:Stmt:=top 16
noncomputable abbrev nW:Stmt:=top 2
noncomputable abbrev pY:Stmt:=top 1
noncomputable abbrev aD2:Stmt:=top 3
noncomputable abbrev bV3:Stmt:=top 4
noncomputable abbrev hX:Stmt:=top 17
noncomputable abbrev nX:Stmt:=top 6
noncomputable abbrev bD3:Stmt:=top 5
noncomputable abbrev gK:Stmt:=top 18
noncomputable abbrev bV4:Stmt:=top 19
structure Adr where
 law_box:Addr
 fd_law_box:FuncData
 law_take:Addr
 fd_law_take:FuncData
 law_names:Addr
 fd_law_names:FuncData
 law_order:Addr
 fd_law_order:FuncData
 law_rows:Addr
 fd_law_rows:FuncData
 law_table:Addr
 fd_law_table:FuncData
 law_whole:Addr
 fd_law_whole:FuncData
 law_is_table:Addr
 fd_law_is_table:FuncData
 law_at:Addr
 fd_law_at:FuncData
 places_of:Addr
 fd_places_of:FuncData
 table_of:Addr
 fd_table_of:FuncData
 picked:Addr
 fd_picked:FuncData
 cut:Addr
 fd_cut:FuncData
 law_cut_right:Addr
 fd_law_cut_right:FuncData
 values_in:Addr
 fd_values_in:FuncData
 kept:Addr
 fd_kept:FuncData
 law_kept_right:Addr
 fd_law_kept_right:FuncData
 law:Addr
 fd_law:FuncData
structure Txt(K:PySem.W.Frag)(mg:Str->Option Value)(a:Adr):Prop where
 m_law_box:mg "_law_box"=some (.ref a.law_box)
 F_law_box:Fun K "_law_box" "_law_box" xC a.law_box a.fd_law_box
 m_law_take:mg "_law_take"=some (.ref a.law_take)
 F_law_take:Fun K "_law_take" "_law_take" pW a.law_take a.fd_law_take
 m_law_names:mg "_law_names"=some (.ref a.law_names)
 F_law_names:Fun K "_law_names" "_law_names" nR a.law_names a.fd_law_names
 m_law_order:mg "_law_order"=some (.ref a.law_order)
 F_law_order:Fun K "_law_order" "_law_order" nT a.law_order a.fd_law_order
 m_law_rows:mg "_law_rows"=some (.ref a.law_rows)
 F_law_rows:Fun K "_law_rows" "_law_rows" pX a.law_rows a.fd_law_rows
 m_law_table:mg "_law_table"=some (.ref a.law_table)
 F_law_table:Fun K "_law_table" "_law_table" nU a.law_table a.fd_law_table
 m_law_whole:mg "_law_whole"=some (.ref a.law_whole)
 F_law_whole:Fun K "_law_whole" "_law_whole" nV a.law_whole a.fd_law_whole
 m_law_is_table:mg "_law_is_table"=some (.ref a.law_is_table)
 F_law_is_table:Fun K "_law_is_table" "_law_is_table" iS a.law_is_table a.fd_law_is_table
 m_law_at:mg "_law_at"=some (.ref a.law_at)
 F_law_at:Fun K "_law_at" "_law_at" aD1 a.law_at a.fd_law_at
 m_places_of:mg "places_of"=some (.ref a.places_of)
 F_places_of:Fun K "places_of" "places_of" nW a.places_of a.fd_places_of
 m_table_of:mg "table_of"=some (.ref a.table_of)
 F_table_of:Fun K "table_of" "table_of" pY a.table_of a.fd_table_of
 m_picked:mg "picked"=some (.ref a.picked)
 F_picked:Fun K "picked" "picked" aD2 a.picked a.fd_picked
 m_cut:mg "cut"=some (.ref a.cut)
 F_cut:Fun K "cut" "cut" bV3 a.cut a.fd_cut
 m_law_cut_right:mg "_law_cut_right"=some (.ref a.law_cut_right)
 F_law_cut_right:Fun K "_law_cut_right" "_law_cut_right" hX a.law_cut_right a.fd_law_cut_right
 m_values_in:mg "values_in"=some (.ref a.values_in)
 F_values_in:Fun K "values_in" "values_in" nX a.values_in a.fd_values_in
 m_kept:mg "kept"=some (.ref a.kept)
 F_kept:Fun K "kept" "kept" bD3 a.kept a.fd_kept
 m_law_kept_right:mg "_law_kept_right"=some (.ref a.law_kept_right)
 F_law_kept_right:Fun K "_law_kept_right" "_law_kept_right" gK a.law_kept_right a.fd_law_kept_right
 m_law:mg "law"=some (.ref a.law)
 F_law:Fun K "law" "law" bV4 a.law a.fd_law
 n_all:mg "all"=none
 n_bool:mg "bool"=none
 n_int:mg "int"=none
 n_isinstance:mg "isinstance"=none
 n_len:mg "len"=none
 n_list:mg "list"=none
 n_range:mg "range"=none
 n_set:mg "set"=none
 n_sorted:mg "sorted"=none
 n_tuple:mg "tuple"=none
theorem aD3:bootBuiltins "all"=some (.builtin "all"):=by decide +kernel
theorem aQ6:bootBuiltins "bool"=some (.type "bool"):=by decide +kernel
theorem qY:bootBuiltins "int"=some (.type "int"):=by decide +kernel
theorem bV:bootBuiltins "isinstance"=some (.builtin "isinstance"):=by decide +kernel
theorem cG:bootBuiltins "len"=some (.builtin "len"):=by decide +kernel
theorem jK:bootBuiltins "list"=some (.type "list"):=by decide +kernel
theorem boot_range:bootBuiltins "range"=some (.type "range"):=by decide +kernel
theorem jL:bootBuiltins "set"=some (.type "set"):=by decide +kernel
theorem eT:bootBuiltins "sorted"=some (.builtin "sorted"):=by decide +kernel
theorem bA:bootBuiltins "tuple"=some (.type "tuple"):=by decide +kernel
theorem pZ:FnScope ["_law_script","_law_k","_law_cell","_law_seed"] ["_law_script","_law_k"] (aO xC):=⟨rfl,rfl,rfl,by decide +kernel,rfl,by decide +kernel,by decide +kernel⟩
theorem nY:FnScope ["_law_box_here","_law_many","_law_digit","_law_one"] ["_law_box_here","_law_many"] (aO pW):=⟨rfl,rfl,rfl,by decide +kernel,rfl,by decide +kernel,by decide +kernel⟩
theorem kX:FnScope ["_law_box_here","_law_many","_law_letters","_law_stem","_law_at_here","_law_first","_law_form","_law_x","_law_y","_law_z","_law_some","_law_found","_law_k","_law_word","_law_own"] ["_law_box_here","_law_many"] (aO nR):=⟨rfl,rfl,rfl,by decide +kernel,rfl,by decide +kernel,by decide +kernel⟩
theorem kY:FnScope ["_law_box_here","_law_things","_law_left","_law_found"] ["_law_box_here","_law_things"] (aO nT):=⟨rfl,rfl,rfl,by decide +kernel,rfl,by decide +kernel,by decide +kernel⟩
theorem nZ:FnScope ["_law_box_here","_law_columns","_law_ceiling","_law_span","_law_many","_law_k","_law_column"] ["_law_box_here","_law_columns","_law_ceiling"] (aO pX):=⟨rfl,rfl,rfl,by decide +kernel,rfl,by decide +kernel,by decide +kernel⟩
theorem kZ:FnScope ["_law_box_here","_law_names_here","_law_ceiling","_law_columns"] ["_law_box_here","_law_names_here","_law_ceiling"] (aO nU):=⟨rfl,rfl,rfl,by decide +kernel,rfl,by decide +kernel,by decide +kernel⟩
theorem lA:FnScope ["_law_found"] ["_law_found"] (aO nV):=⟨rfl,rfl,rfl,by decide +kernel,rfl,by decide +kernel,by decide +kernel⟩
theorem hZ:FnScope ["_law_found","_law_columns","_law_rows_here","_law_row","_law_value"] ["_law_found","_law_columns","_law_rows_here"] (aO iS):=⟨rfl,rfl,rfl,by decide +kernel,rfl,by decide +kernel,by decide +kernel⟩
theorem xD:FnScope ["_law_columns","_law_row","_law_some","_law_column"] ["_law_columns","_law_row","_law_some"] (aO aD1):=⟨rfl,rfl,rfl,by decide +kernel,rfl,by decide +kernel,by decide +kernel⟩
theorem lB:FnScope ["columns","some","column"] ["columns","some"] (aO nW):=⟨rfl,rfl,rfl,by decide +kernel,rfl,by decide +kernel,by decide +kernel⟩
theorem oA:FnScope ["columns","rows"] ["columns","rows"] (aO pY):=⟨rfl,rfl,rfl,by decide +kernel,rfl,by decide +kernel,by decide +kernel⟩
theorem xE:FnScope ["row","places","place"] ["row","places"] (aO aD2):=⟨rfl,rfl,rfl,by decide +kernel,rfl,by decide +kernel,by decide +kernel⟩
theorem bD4:FnScope ["table","columns","places","row"] ["table","columns"] (aO bV3):=⟨rfl,rfl,rfl,by decide +kernel,rfl,by decide +kernel,by decide +kernel⟩
theorem gL:FnScope ["_law_table_here","_law_some","_law_columns","_law_rows_here","_law_row"] ["_law_table_here","_law_some"] (aO hX):=⟨rfl,rfl,rfl,by decide +kernel,rfl,by decide +kernel,by decide +kernel⟩
theorem lC:FnScope ["table","column","place","row"] ["table","column"] (aO nX):=⟨rfl,rfl,rfl,by decide +kernel,rfl,by decide +kernel,by decide +kernel⟩
theorem aQ7:FnScope ["table","column","value","place","row"] ["table","column","value"] (aO bD3):=⟨rfl,rfl,rfl,by decide +kernel,rfl,by decide +kernel,by decide +kernel⟩
theorem fQ:FnScope ["_law_table_here","_law_column","_law_value","_law_columns","_law_rows_here","_law_place","_law_due","_law_found","_law_row","_law_one"] ["_law_table_here","_law_column","_law_value"] (aO gK):=⟨rfl,rfl,rfl,by decide +kernel,rfl,by decide +kernel,by decide +kernel⟩
theorem bD5:FnScope ["_law_script","_law_box_here","_law_names_here","_law_table_here","_law_columns","_law_rows_here","_law_some","_law_column","_law_value","_law_drawn","_law_given"] ["_law_script"] (aO bV4):=⟨rfl,rfl,rfl,by decide +kernel,rfl,by decide +kernel,by decide +kernel⟩
section
variable{P:Program}{w:World}{K:PySem.W.Frag}{mg:Str->Option Value}{base:Heap}{a:Adr}
theorem oB(T:Txt K mg a):eZ K a.fd_law_box ["_law_script","_law_k"] []:=T.F_law_box.binds (ps:=["_law_script","_law_k"]) fun _ _ _ _ _ _ us hl=>match us,hl with | [_,_],_=>rfl
theorem aM(T:Txt K mg a):eZ K a.fd_law_take ["_law_box_here","_law_many"] []:=T.F_law_take.binds (ps:=["_law_box_here","_law_many"]) fun _ _ _ _ _ _ us hl=>match us,hl with | [_,_],_=>rfl
theorem zJ(T:Txt K mg a):eZ K a.fd_law_names ["_law_box_here","_law_many"] []:=T.F_law_names.binds (ps:=["_law_box_here","_law_many"]) fun _ _ _ _ _ _ us hl=>match us,hl with | [_,_],_=>rfl
theorem iY(T:Txt K mg a):eZ K a.fd_law_order ["_law_box_here","_law_things"] []:=T.F_law_order.binds (ps:=["_law_box_here","_law_things"]) fun _ _ _ _ _ _ us hl=>match us,hl with | [_,_],_=>rfl
theorem aI4(T:Txt K mg a):eZ K a.fd_law_rows ["_law_box_here","_law_columns","_law_ceiling"] []:=T.F_law_rows.binds (ps:=["_law_box_here","_law_columns","_law_ceiling"]) fun _ _ _ _ _ _ us hl=>match us,hl with | [_,_,_],_=>rfl
theorem zK(T:Txt K mg a):eZ K a.fd_law_table ["_law_box_here","_law_names_here","_law_ceiling"] []:=T.F_law_table.binds (ps:=["_law_box_here","_law_names_here","_law_ceiling"]) fun _ _ _ _ _ _ us hl=>match us,hl with | [_,_,_],_=>rfl
theorem oC(T:Txt K mg a):eZ K a.fd_law_whole ["_law_found"] []:=T.F_law_whole.binds (ps:=["_law_found"]) fun _ _ _ _ _ _ us hl=>match us,hl with | [_],_=>rfl
theorem fK(T:Txt K mg a):eZ K a.fd_law_is_table ["_law_found","_law_columns","_law_rows_here"] []:=T.F_law_is_table.binds (ps:=["_law_found","_law_columns","_law_rows_here"]) fun _ _ _ _ _ _ us hl=>match us,hl with | [_,_,_],_=>rfl
theorem aZ5(T:Txt K mg a):eZ K a.fd_law_at ["_law_columns","_law_row","_law_some"] []:=T.F_law_at.binds (ps:=["_law_columns","_law_row","_law_some"]) fun _ _ _ _ _ _ us hl=>match us,hl with | [_,_,_],_=>rfl
theorem zL(T:Txt K mg a):eZ K a.fd_places_of ["columns","some"] []:=T.F_places_of.binds (ps:=["columns","some"]) fun _ _ _ _ _ _ us hl=>match us,hl with | [_,_],_=>rfl
theorem qA(T:Txt K mg a):eZ K a.fd_table_of ["columns","rows"] []:=T.F_table_of.binds (ps:=["columns","rows"]) fun _ _ _ _ _ _ us hl=>match us,hl with | [_,_],_=>rfl
theorem aZ6(T:Txt K mg a):eZ K a.fd_picked ["row","places"] []:=T.F_picked.binds (ps:=["row","places"]) fun _ _ _ _ _ _ us hl=>match us,hl with | [_,_],_=>rfl
theorem cC6(T:Txt K mg a):eZ K a.fd_cut ["table","columns"] []:=T.F_cut.binds (ps:=["table","columns"]) fun _ _ _ _ _ _ us hl=>match us,hl with | [_,_],_=>rfl
theorem eU(T:Txt K mg a):eZ K a.fd_law_cut_right ["_law_table_here","_law_some"] []:=T.F_law_cut_right.binds (ps:=["_law_table_here","_law_some"]) fun _ _ _ _ _ _ us hl=>match us,hl with | [_,_],_=>rfl
theorem oE(T:Txt K mg a):eZ K a.fd_values_in ["table","column"] []:=T.F_values_in.binds (ps:=["table","column"]) fun _ _ _ _ _ _ us hl=>match us,hl with | [_,_],_=>rfl
theorem bV5(T:Txt K mg a):eZ K a.fd_kept ["table","column","value"] []:=T.F_kept.binds (ps:=["table","column","value"]) fun _ _ _ _ _ _ us hl=>match us,hl with | [_,_,_],_=>rfl
theorem lH(T:Txt K mg a):eZ K a.fd_law_kept_right ["_law_table_here","_law_column","_law_value"] []:=T.F_law_kept_right.binds (ps:=["_law_table_here","_law_column","_law_value"]) fun _ _ _ _ _ _ us hl=>match us,hl with | [_,_,_],_=>rfl
end
end Mr
namespace Sx
open PySem PySem.SetTable
noncomputable def gS:Nat->Nat
 | 0=>0
 | n+1=>5*gS n+1
theorem xF(n:Nat):4*gS n+1=5 ^ n:=by
 induction n with
 | zero=>rfl
 | succ n ih=>rw[Nat.pow_succ,← ih];show 4*(5*gS n+1)+1=_;omega
theorem bD6(a b:Nat):gS (a+b)=gS a*5 ^ b+gS b:=by
 have h1:=xF (a+b)
 have h2:=xF a
 have h3:=xF b
 have h4:(5:Nat) ^ (a+b)=5 ^ a*5 ^ b:=Nat.pow_add ..
 have h5:4*(gS a*5 ^ b)+5 ^ b=5 ^ a*5 ^ b:=by rw[← h2,Nat.add_mul,Nat.one_mul,Nat.mul_assoc]
 omega
theorem aD4(n:Nat):5 ^ n % 4=1:=by
 have:=xF n
 omega
theorem bV6(n:Nat)(h:n % 2=1):gS n % 2=1:=by
 have key:∀ m,gS m % 2=m % 2:=fun m=>by
  induction m with
  | zero=>rfl
  | succ m ih=>show(5*gS m+1) % 2=_;omega
 rw[key n,h]
theorem qB{a b k:Nat}(hb:b % 2=1)(h:2 ^ k ∣ a*b):2 ^ k ∣ a:=by
 have hc:Nat.Coprime (2 ^ k) b:=by
  refine Nat.Coprime.pow_left k ?_
  have:Nat.gcd 2 b=1:=by
   rw[Nat.gcd_rec,hb]
   rfl
  exact this
 exact Nat.Coprime.dvd_of_dvd_mul_right hc h
theorem bD7:∀ (k n:Nat),2 ^ k ∣ gS n->2 ^ k ∣ n
 | 0,n,_=>by rw[Nat.pow_zero];exact Nat.one_dvd n
 | k+1,n,h=>by
   rcases Nat.mod_two_eq_zero_or_one n with e | e
   ·obtain⟨m,rfl⟩:∃ m,n=m+m:=⟨n / 2,by omega⟩
    rw[bD6]at h
    have f:=aD4 m
    obtain⟨q,hq⟩:∃ q,5 ^ m+1=2*q:=⟨(5 ^ m+1) / 2,by omega⟩
    have ho:q % 2=1:=by omega
    have e2:gS m*5 ^ m+gS m=2*(gS m*q):=by
     have:gS m*5 ^ m+gS m=gS m*(5 ^ m+1):=by rw[Nat.mul_add,Nat.mul_one]
     rw[this,hq,Nat.mul_left_comm]
    rw[e2,Nat.pow_succ,Nat.mul_comm (2 ^ k) 2]at h
    have h2:2 ^ k ∣ gS m*q:=Nat.dvd_of_mul_dvd_mul_left (by decide) h
    have h3:=bD7 k m (qB ho h2)
    have e3:m+m=2*m:=by omega
    rw[e3,Nat.pow_succ,Nat.mul_comm (2 ^ k) 2]
    exact Nat.mul_dvd_mul_left 2 h3
   ·exfalso
    have o:=bV6 n e
    have:2 ∣ gS n:=Nat.dvd_trans ⟨2 ^ k,by rw[Nat.pow_succ,Nat.mul_comm]⟩ h
    omega
noncomputable def stp(k:Nat):Nat->Nat->Nat
 | 0,x=>x % 2 ^ k
 | n+1,x=>(5*stp k n x+1) % 2 ^ k
theorem aQ8(k n x:Nat):stp k n x=(5 ^ n*x+gS n) % 2 ^ k:=by
 induction n with
 | zero=>simp[stp,gS]
 | succ n ih=>
   show(5*stp k n x+1) % 2 ^ k=_
   rw[ih]
   have e:5 ^ (n+1)*x+gS (n+1)=5*(5 ^ n*x+gS n)+1:=by
    show _+(5*gS n+1)=_
    rw[Nat.pow_succ,Nat.mul_comm (5 ^ n) 5,Nat.mul_assoc,Nat.mul_add];omega
   rw[e,Nat.add_mod,Nat.mul_mod]
   simp[Nat.mul_mod,Nat.add_mod]
theorem aQ9{k x a b:Nat}(ha:a < b)(hb:b < 2 ^ k)(h:stp k a x=stp k b x):False:=by
 rw[aQ8,aQ8]at h
 obtain⟨d,rfl⟩:∃ d,b=a+d:=⟨b-a,by omega⟩
 have hd:2 ^ k ∣ (5 ^ (a+d)*x+gS (a+d))-(5 ^ a*x+gS a):=by
  exact Nat.dvd_of_mod_eq_zero (Nat.sub_mod_eq_zero_of_mod_eq h.symm)
 have e:(5 ^ (a+d)*x+gS (a+d))-(5 ^ a*x+gS a)=gS d*((4*x+1)*5 ^ a):=by
  have h1:=xF d
  have h2:5 ^ (a+d)*x=gS d*(4*x*5 ^ a)+5 ^ a*x:=by
   rw[Nat.pow_add,← h1,Nat.mul_assoc,Nat.add_mul,Nat.one_mul,Nat.mul_add]
   congr 1
   rw[Nat.mul_comm (4*x),Nat.mul_comm 4 (gS d),Nat.mul_assoc,Nat.mul_left_comm]
  have h3:gS (a+d)=gS d*5 ^ a+gS a:=by rw[Nat.add_comm a d,bD6]
  rw[h2,h3,Nat.add_mul,Nat.one_mul,Nat.mul_add]
  omega
 rw[e]at hd
 have ho:((4*x+1)*5 ^ a) % 2=1:=by
  have f:=aD4 a
  rw[Nat.mul_mod]
  have:5 ^ a % 2=1:=by omega
  have:(4*x+1) % 2=1:=by omega
  simp[*]
 have:=Nat.le_of_dvd (by omega) (bD7 k d (qB ho hd))
 omega
theorem oF:∀ (N:Nat) (f:Nat->Nat),(∀ i,i < N->f i < N)->(∀ i j,i < j->j < N->f i≠f j)->∀ c,c < N->∃ i,i < N/\f i=c
 | 0,_,_,_,c,h=>absurd h (Nat.not_lt_zero c)
 | N+1,f,hb,hi,c,hc=>by
   by_cases hN:∃ i,i < N+1/\f i=c
   ·exact hN
   ·exfalso
    -- with c lG out,and N in its place
    have hne:∀ i,i < N+1->f i≠c:=fun i h e=>hN ⟨i,h,e⟩
    let g:Nat->Nat:=fun i=>if f i=N then c else f i
    have gb:∀ i,i < N+1->g i < N:=fun i h=>by
     show(if f i=N then c else f i) < N
     have h1:=hb i h
     have h2:=hne i h
     split
     ·omega
     ·omega
    have gi:∀ i j,i < j->j < N+1->g i≠g j:=fun i j hij hj=>by
     show(if f i=N then c else f i)≠if f j=N then c else f j
     have h1:=hi i j hij hj
     have h2:=hne i (by omega)
     have h3:=hne j hj
     split<;>split<;>omega
    obtain⟨i,hiN,e⟩:=oF N g (fun i h=>gb i (by omega)) (fun i j hij hj=>gi i j hij (by omega)) (g N) (gb N (by omega))
    exact gi i N hiN (by omega) e
theorem aR0{k x c:Nat}(hc:c < 2 ^ k):∃ n,n < 2 ^ k/\stp k n x=c:=
 oF (2 ^ k) (fun n=>stp k n x) (fun i _=>by show stp k i x < _;rw[aQ8];exact Nat.mod_lt _ (Nat.two_pow_pos k)) (fun i j hij hj e=>aQ9 hij hj e) c hc
end Sx
namespace Sx
open PySem PySem.SetTable
noncomputable def adv(mask:Nat)(p:Probe):Probe:=
 if p.more > 0 then{p with j:=p.j+1,more:=p.more-1}else
 {p with j:=(leap mask p.i p.perturb).1,more:=runEnd mask (leap mask p.i p.perturb).1-(leap mask p.i p.perturb).1,i:=(leap mask p.i p.perturb).1,perturb:=(leap mask p.i p.perturb).2}
noncomputable def wk0(mask:Nat)(h:Int):Probe:=⟨bits h % (mask+1),runEnd mask (bits h % (mask+1))-bits h % (mask+1),bits h % (mask+1),bits h,none⟩
noncomputable def wk(mask:Nat)(h:Int):Nat->Probe
 | 0=>wk0 mask h
 | n+1=>adv mask (wk mask h n)
noncomputable def lp(mask:Nat)(h:Int):Nat->Nat×Nat
 | 0=>(bits h % (mask+1),bits h)
 | l+1=>leap mask (lp mask h l).1 (lp mask h l).2
noncomputable def pA(mask i:Nat):Nat:=runEnd mask i-i
theorem bJ4(mask i:Nat):pA mask i<=9:=by unfold pA runEnd;split<;>omega
noncomputable def tm(mask:Nat)(h:Int):Nat->Nat
 | 0=>0
 | l+1=>tm mask h l+pA mask (lp mask h l).1+1
theorem bV7(mask:Nat)(h:Int)(l:Nat):tm mask h l<=10*l:=by
 induction l with
 | zero=>exact Nat.le_refl _
 | succ l ih=>
   have:=bJ4 mask (lp mask h l).1
   show tm mask h l+pA mask (lp mask h l).1+1<=_
   omega
theorem aR1{mask:Nat}{h:Int}{l:Nat}(e:wk mask h (tm mask h l)=⟨(lp mask h l).1,pA mask (lp mask h l).1,(lp mask h l).1,(lp mask h l).2,none⟩) :
  ∀ r,r<=pA mask (lp mask h l).1->wk mask h (tm mask h l+r)=⟨(lp mask h l).1+r,pA mask (lp mask h l).1-r,(lp mask h l).1,(lp mask h l).2,none⟩
 | 0,_=>e
 | r+1,hr=>by
   have ih:=aR1 e r (by omega)
   show adv mask (wk mask h (tm mask h l+r))=_
   rw[ih]
   unfold adv
   rw[if_pos (by show pA mask (lp mask h l).1-r > 0;omega)]
   congr 1
theorem qZ(mask:Nat)(h:Int):∀ l,wk mask h (tm mask h l)=⟨(lp mask h l).1,pA mask (lp mask h l).1,(lp mask h l).1,(lp mask h l).2,none⟩
 | 0=>rfl
 | l+1=>by
   have ih:=aR1 (qZ mask h l) (pA mask (lp mask h l).1) (Nat.le_refl _)
   show adv mask (wk mask h (tm mask h l+pA mask (lp mask h l).1))=_
   rw[ih]
   unfold adv
   rw[if_neg (by show ¬ pA mask (lp mask h l).1-pA mask (lp mask h l).1 > 0;omega)]
   rfl
theorem aR2(mask:Nat)(h:Int):∀ l,(lp mask h l).2=bits h / 32 ^ l
 | 0=>by show bits h=_;simp
 | l+1=>by
   show(lp mask h l).2 / 32=_
   rw[aR2 mask h l,Nat.div_div_eq_div_mul,Nat.pow_succ]
theorem bJ5(h:Int):bits h < 2 ^ 64:=by
 unfold bits
 have h1:=Int.emod_nonneg h (b:=2 ^ 64) (by decide)
 have h2:=Int.emod_lt_of_pos h (b:=2 ^ 64) (by decide)
 omega
theorem bJ6(mask:Nat)(h:Int){l:Nat}(hl:13<=l):(lp mask h l).2=0:=by
 rw[aR2]
 refine Nat.div_eq_of_lt (Nat.lt_of_lt_of_le (bJ5 h) ?_)
 refine Nat.le_trans (by decide:2 ^ 64<=32 ^ 13) (Nat.pow_le_pow_right (by decide) hl)
theorem bV8(mask:Nat)(h:Int):∀ l,(lp mask h l).1 < mask+1
 | 0=>Nat.mod_lt _ (Nat.succ_pos _)
 | l+1=>Nat.mod_lt _ (Nat.succ_pos _)
theorem aD5{mask k:Nat}(hk:mask+1=2 ^ k)(h:Int):∀ n,(lp mask h (13+n)).1=stp k n (lp mask h 13).1
 | 0=>by
   show _=_ % 2 ^ k
   rw[Nat.mod_eq_of_lt (by rw[← hk];exact bV8 mask h 13)]
 | n+1=>by
   have e:(lp mask h (13+(n+1))).1=((lp mask h (13+n)).1*5+1+(lp mask h (13+n)).2 / 32) % (mask+1):=rfl
   rw[e,bJ6 mask h (by omega),aD5 hk h n,hk]
   show _=(5*stp k n _+1) % 2 ^ k
   rw[Nat.mul_comm 5]
theorem cC7{mask k c:Nat}(hk:mask+1=2 ^ k)(h:Int)(hc:c<=mask):∃ m,m < 10*turns mask/\(wk mask h m).j=c:=by
 obtain⟨n,hn,e⟩:=aR0 (k:=k) (x:=(lp mask h 13).1) (c:=c) (by omega)
 refine⟨tm mask h (13+n),?_,?_⟩
 ·have:=bV7 mask h (13+n)
  show _ < 10*(mask+15)
  omega
 ·rw[qZ,← e,← aD5 hk h n]
theorem aR3{mask i:Nat}(hi:i<=mask)(r:Nat)(hr:r<=pA mask i):i+r<=mask:=by
 unfold pA runEnd at hr
 split at hr<;>omega
theorem bJ7{mask:Nat}(h:Int):∀ n,(wk mask h n).dummy=none/\(wk mask h n).j+(wk mask h n).more<=mask
 | 0=>⟨rfl,by
   have h1:bits h % (mask+1)<=mask:=Nat.le_of_lt_succ (Nat.mod_lt _ (Nat.succ_pos _))
   exact aR3 h1 _ (Nat.le_refl _)⟩
 | n+1=>by
   obtain⟨h1,h2⟩:=bJ7 (mask:=mask) h n
   show(adv mask (wk mask h n)).dummy=none/\(adv mask (wk mask h n)).j+(adv mask (wk mask h n)).more<=mask
   unfold adv
   split
   ·refine⟨h1,?_⟩
    show(wk mask h n).j+1+((wk mask h n).more-1)<=mask
    omega
   ·refine⟨h1,?_⟩
    exact aR3 (Nat.le_of_lt_succ (Nat.mod_lt _ (Nat.succ_pos _))) _ (Nat.le_refl _)
theorem bV9{mask:Nat}(h:Int)(n:Nat):(wk mask h n).j<=mask:=by
 have:=(bJ7 (mask:=mask) h n).2
 omega
end Sx
namespace Sx
open PySem PySem.SetTable
noncomputable def Ris(xs:Array Nat):Prop:=∀ (i j:Nat) (a b:Nat),i < j->xs[i]? = some a->xs[j]? = some b->a < b
structure Cut(xs:Array Nat)(j r:Nat):Prop where
 le:r<=xs.size
 lo:∀ (i a:Nat),i < r->xs[i]? = some a->a < j
 hi:∀ (i a:Nat),r<=i->xs[i]? = some a->j<=a
theorem rA{xs:Array Nat}{j:Nat}(hs:Ris xs):∀ (fuel lo hi:Nat),hi-lo<=fuel->lo<=hi->hi<=xs.size->(∀ (i a:Nat),i < lo->xs[i]? = some a->a < j)->(∀ (i a:Nat),hi<=i->xs[i]? = some a->j<=a)->Cut xs j (below.go xs j fuel lo hi)
 | 0,lo,hi,hf,hl,hz,h1,h2=>by
   have:lo=hi:=by omega
   subst this
   exact⟨hz,h1,h2⟩
 | fuel+1,lo,hi,hf,hl,hz,h1,h2=>by
   unfold below.go
   split
   ·rename_i hlt
    have hm:(lo+hi) / 2 < xs.size:=by omega
    have em:xs[(lo+hi) / 2]? = some xs[(lo+hi) / 2]:=Array.getElem?_eq_getElem hm
    have eg:xs.getD ((lo+hi) / 2) j=xs[(lo+hi) / 2]:=by rw[Array.getD_eq_getD_getElem?,em];rfl
    dsimp only
    rw[eg]
    split
    ·rename_i hq
     refine rA hs fuel _ hi (by omega) (by omega) hz (fun i a hi' e=>?_) h2
     by_cases z:i=(lo+hi) / 2
     ·subst z;rw[em]at e;cases e;exact hq
     ·exact Nat.lt_trans (hs i _ a _ (by omega) e em) hq
    ·rename_i hq
     refine rA hs fuel lo _ (by omega) (by omega) (by omega) h1 (fun i a hi' e=>?_)
     by_cases z:i=(lo+hi) / 2
     ·subst z;rw[em]at e;cases e;omega
     ·have:=hs _ i _ a (by omega) em e;omega
   ·have:lo=hi:=by omega
    subst this
    exact⟨hz,h1,h2⟩
theorem dS{xs:Array Nat}(hs:Ris xs)(j:Nat):Cut xs j (below xs j):=
 rA hs _ _ _ (by omega) (by omega) (Nat.le_refl _) (fun i a h _=>absurd h (Nat.not_lt_zero _)) fun i a h e=>by
  have:=(Array.getElem?_eq_some_iff.mp e).1
  omega
theorem eL{xs:Array Nat}(hs:Ris xs){i j:Nat}(h:xs[i]? = some j):below xs j=i:=by
 have c:=dS hs j
 have h1:below xs j<=i:=by
  refine Nat.le_of_not_lt fun z=>?_
  have:=c.lo i j z h
  omega
 have h2:i<=below xs j:=by
  refine Nat.le_of_not_lt fun z=>?_
  have hb:below xs j < xs.size:=Nat.lt_trans z (Array.getElem?_eq_some_iff.mp h).1
  have eb:xs[below xs j]? = some xs[below xs j]:=Array.getElem?_eq_getElem hb
  have:=hs _ i _ j z eb h
  have:=c.hi _ _ (Nat.le_refl _) eb
  omega
 omega
theorem oG{t:SetTable}(hs:Ris t.place){i j:Nat}(h:t.place[i]? = some j):t.slot j=.live i:=by
 unfold slot
 dsimp only
 rw[eL hs h,h]
 simp
theorem aI5{t:SetTable}(hd:t.dummies=#[]){j:Nat}(h:∀ i:Nat,t.place[i]? ≠ some j):t.slot j=.empty:=by
 unfold slot
 dsimp only
 rw[if_neg (by simpa using h _),if_neg (by rw[hd];simp[has])]
noncomputable def Occ(t:SetTable)(j:Nat):Prop:=∃ i:Nat,t.place[i]? = some j
structure TOk(t:SetTable)(hs:List Int):Prop where
 pw:∃ k,t.mask+1=2 ^ k
 m7:7<=t.mask
 dm:t.dummies=#[]
 ri:Ris t.place
 lt:∀ (i j:Nat),t.place[i]? = some j->j<=t.mask
 len:t.place.size=hs.length
 fit:t.place.size<=t.mask
 rea:∀ (i:Nat) h,hs[i]? = some h->∃ m j,t.place[i]? = some j/\(wk t.mask h m).j=j/\∀ m',m' < m->Occ t (wk t.mask h m').j
section
variable{t:SetTable}{hs:List Int}
theorem TOk.free(T:TOk t hs):∃ c,c<=t.mask/\¬ Occ t c:=by
 refine Classical.byContradiction fun hn=>?_
 have hall:∀ c,c<=t.mask->Occ t c:=fun c hc=>Classical.byContradiction fun z=>hn ⟨c,hc,z⟩
 have hm:=T.m7
 have hf:=T.fit
 -- the first size+1 places lie at unlike numbers below size
 have hsz:t.place.size+1<=t.mask+1:=by omega
 let f:Nat->Nat:=fun c=>below t.place c
 have fb:∀ c,c<=t.mask->f c < t.place.size/\t.place[f c]? = some c:=fun c hc=>by
  obtain⟨i,e⟩:=hall c hc
  have:f c=i:=eL T.ri e
  rw[this]
  exact⟨(Array.getElem?_eq_some_iff.mp e).1,e⟩
 have fi:∀ a b,a < b->b<=t.mask->f a≠f b:=fun a b hab hb e=>by
  have h1:=(fb a (by omega)).2
  have h2:=(fb b hb).2
  rw[e,h2]at h1
  have:=Option.some.inj h1
  omega
 -- so among size places all below size are taken;the next one has none lG
 obtain⟨i,hi,e⟩:=oF t.place.size f (fun i h=>(fb i (by omega)).1) (fun a b hab hb=>fi a b hab (by omega)) (f t.place.size) (fb t.place.size (by omega)).1
 exact fi i t.place.size hi (by omega) e
theorem TOk.stop(T:TOk t hs)(h:Int):∃ M,M < 10*turns t.mask/\¬ Occ t (wk t.mask h M).j/\∀ m,m < M->Occ t (wk t.mask h m).j:=by
 obtain⟨c,hc,hn⟩:=T.free
 obtain⟨k,hk⟩:=T.pw
 obtain⟨m,hm,e⟩:=cC7 hk h hc
 have key:∀ n,(∃ m,m < n/\¬ Occ t (wk t.mask h m).j)->∃ M,M < n/\¬ Occ t (wk t.mask h M).j/\∀ m,m < M->Occ t (wk t.mask h m).j:=by
  intro n
  induction n with
  | zero=>rintro⟨m,h,_⟩;exact absurd h (Nat.not_lt_zero _)
  | succ n ih=>
    rintro⟨m,h1,h2⟩
    by_cases hb:∃ m,m < n/\¬ Occ t (wk t.mask h m).j
    ·obtain⟨M,a,b,c⟩:=ih hb
     exact⟨M,by omega,b,c⟩
    ·refine⟨m,h1,h2,fun m' hm'=>Classical.byContradiction fun z=>hb ⟨m',by omega,z⟩⟩
 exact key _ ⟨m,hm,by rw[e];exact hn⟩
end
theorem zM{t:SetTable}{hs:List Int}(T:TOk t hs){h:Int}{hashAt:Nat->Int}{M:Nat}(hM:¬ Occ t (wk t.mask h M).j)(hb:∀ m,m < M->Occ t (wk t.mask h m).j) :
  ∀ (fuel n:Nat),n<=M->M-n < fuel ->
    (∃ m i,n<=m/\m < M/\t.place[i]? = some (wk t.mask h m).j/\hashAt i=h/\(∀ m' i',n<=m'->m' < m->t.place[i']? = some (wk t.mask h m').j->hashAt i'≠h)/\probe.go t hashAt h fuel (wk t.mask h n)=some (.candidate (wk t.mask h m).j i (wk t.mask h (m+1)))) \/
    ((∀ m' i',n<=m'->m' < M->t.place[i']? = some (wk t.mask h m').j->hashAt i'≠h)/\probe.go t hashAt h fuel (wk t.mask h n)=some (.empty (wk t.mask h M).j none))
 | 0,n,_,hf=>by omega
 | fuel+1,n,hn,hf=>by
   have hdm:=(bJ7 (mask:=t.mask) h n).1
   unfold probe.go
   by_cases hnM:n=M
   ·subst hnM
    refine .inr ⟨fun m' i' h1 h2=>by omega,?_⟩
    have:t.slot (wk t.mask h n).j=.empty:=aI5 T.dm fun i e=>hM ⟨i,e⟩
    rw[this]
    dsimp only
    rw[hdm]
   ·obtain⟨i,ei⟩:=hb n (by omega)
    have hsl:=oG T.ri ei
    rw[hsl]
    dsimp only
    by_cases hq:hashAt i=h
    ·refine .inl ⟨n,i,Nat.le_refl _,by omega,ei,hq,fun m' i' h1 h2=>by omega,?_⟩
     rw[if_pos (by simpa using hq)]
     rfl
    ·rw[if_neg (by simpa using hq)]
     have uni:∀ i',t.place[i']? = some (wk t.mask h n).j->i'=i:=fun i' e=>by
      rw[← eL T.ri e,← eL T.ri ei]
     rcases zM T hM hb fuel (n+1) (by omega) (by omega)with⟨m,i2,a1,a2,a3,a4,a5,a6⟩ | ⟨a1,a2⟩
     ·refine .inl ⟨m,i2,by omega,a2,a3,a4,fun m' i' h1 h2 e=>?_,a6⟩
      by_cases z:m'=n
      ·subst z;rw[uni i' e];exact hq
      ·exact a5 m' i' (by omega) h2 e
     ·refine .inr ⟨fun m' i' h1 h2 e=>?_,a2⟩
      by_cases z:m'=n
      ·subst z;rw[uni i' e];exact hq
      ·exact a1 m' i' (by omega) h2 e
end Sx
namespace Sx
open PySem PySem.SetTable
theorem fE{α:Type}(xs:Array α){p:Nat}(hp:p<=xs.size)(x:α)(i:Nat):(insertAt xs p x)[i]? = if i < p then xs[i]? else if i=p then some x else xs[i-1]?:=by
 rw[← Array.getElem?_toList,toList_insertAt]
 have hl:(xs.toList.take p).length=p:=by rw[List.length_take,Array.length_toList];omega
 by_cases h1:i < p
 ·rw[if_pos h1,List.getElem?_append_left (by omega),List.getElem?_take_of_lt h1,Array.getElem?_toList]
 ·rw[if_neg h1,List.getElem?_append_right (by omega),hl]
  by_cases h2:i=p
  ·subst h2;rw[if_pos rfl,Nat.sub_self];rfl
  ·rw[if_neg h2]
   obtain⟨d,rfl⟩:∃ d,i=p+1+d:=⟨i-p-1,by omega⟩
   have e1:p+1+d-p=d+1:=by omega
   have e2:p+1+d-1=p+d:=by omega
   rw[e1,e2,List.getElem?_cons_succ,List.getElem?_drop,Array.getElem?_toList]
theorem iH{α:Type}(xs:Array α){p:Nat}(hp:p<=xs.size)(x:α):(insertAt xs p x).size=xs.size+1:=by
 rw[← Array.length_toList,toList_insertAt,List.length_append,List.length_cons,List.length_take,List.length_drop,Array.length_toList]
 omega
noncomputable def xG{α:Type}(l:List α)(p:Nat)(x:α):List α:=l.take p++x::l.drop p
theorem aD6{α:Type}(l:List α){p:Nat}(hp:p<=l.length)(x:α)(i:Nat):(xG l p x)[i]? = if i < p then l[i]? else if i=p then some x else l[i-1]?:=by
 have:=fE l.toArray (p:=p) (by simpa using hp) x i
 rw[← Array.getElem?_toList,toList_insertAt]at this
 simpa[xG]using this
theorem oH{α:Type}(l:List α){p:Nat}(hp:p<=l.length)(x:α):(xG l p x).length=l.length+1:=by
 unfold xG
 rw[List.length_append,List.length_cons,List.length_take,List.length_drop]
 omega
section
variable{t:SetTable}{hs:List Int}{h:Int}{M:Nat}
theorem oJ(t:SetTable)(j:Nat)(hd:t.dummies=#[]):t.put j=({t with place:=insertAt t.place (below t.place j) j},below t.place j):=by
 unfold put
 dsimp only
 rw[hd]
 rfl
theorem bJ8{t t':SetTable}{j c:Nat}(hp:below t.place j<=t.place.size)(e:t'.place=insertAt t.place (below t.place j) j):Occ t' c↔Occ t c\/c=j:=by
 constructor
 ·rintro⟨i,hi⟩
  rw[e,fE _ hp]at hi
  split at hi
  ·exact .inl ⟨i,hi⟩
  ·split at hi
   ·exact .inr (Option.some.inj hi).symm
   ·exact .inl ⟨i-1,hi⟩
 ·rintro(⟨i,hi⟩ | rfl)
  ·by_cases hb:i < below t.place j
   ·exact⟨i,by rw[e,fE _ hp,if_pos hb];exact hi⟩
   ·exact⟨i+1,by rw[e,fE _ hp,if_neg (by omega),if_neg (by omega)];exact hi⟩
  ·exact⟨below t.place c,by rw[e,fE _ hp,if_neg (by omega),if_pos rfl]⟩
theorem TOk.put(T:TOk t hs)(hM:¬ Occ t (wk t.mask h M).j)(hb:∀ m,m < M->Occ t (wk t.mask h m).j)(hf:t.place.size+1<=t.mask) :
  TOk (t.put (wk t.mask h M).j).1 (xG hs (below t.place (wk t.mask h M).j) h):=by
 have c:=dS T.ri (wk t.mask h M).j
 rw[oJ t _ T.dm]
 have hp:=c.le
 have hph:below t.place (wk t.mask h M).j<=hs.length:=by rw[← T.len];exact hp
 have occ:∀ x,Occ {t with place:=insertAt t.place (below t.place (wk t.mask h M).j) (wk t.mask h M).j} x↔Occ t x\/x=(wk t.mask h M).j:=fun x=>bJ8 hp rfl
 refine⟨T.pw,T.m7,T.dm,?_,?_,?_,?_,?_⟩
 ·intro i1 i2 a b hi e1 e2
  have hne:∀ i a,t.place[i]? = some a->a≠(wk t.mask h M).j:=fun i a e z=>hM ⟨i,by rw[e,z]⟩
  dsimp only at e1 e2
  rw[fE _ hp]at e1 e2
  generalize (wk t.mask h M).j=j at *
  split at e1
  ·split at e2
   ·exact T.ri _ _ _ _ hi e1 e2
   ·split at e2
    ·cases e2;exact c.lo _ _ (by assumption) e1
    ·exact T.ri _ _ _ _ (by omega) e1 e2
  ·split at e1
   ·cases e1
    rw[if_neg (by omega),if_neg (by omega)]at e2
    have h1:=c.hi _ _ (by omega:below t.place a<=i2-1) e2
    have h2:=hne _ _ e2
    omega
   ·rw[if_neg (by omega),if_neg (by omega)]at e2
    exact T.ri _ _ _ _ (by omega) e1 e2
 ·intro i j e
  rcases(occ j).mp ⟨i,e⟩with⟨i',e'⟩ | rfl
  ·exact T.lt i' j e'
  ·exact bV9 h M
 ·show(insertAt _ _ _).size=_
  rw[iH _ hp,oH _ hph,T.len]
 ·show(insertAt _ _ _).size<=_
  rw[iH _ hp];exact hf
 ·intro i h' e
  rw[aD6 _ hph]at e
  show ∃ m j,(insertAt t.place (below t.place (wk t.mask h M).j) (wk t.mask h M).j)[i]? = some j/\_
  rw[fE _ hp]
  have old:∀ i0,hs[i0]? = some h'->∃ m j,t.place[i0]? = some j/\(wk t.mask h' m).j=j/\∀ m',m' < m->Occ {t with place:=insertAt t.place (below t.place (wk t.mask h M).j) (wk t.mask h M).j} (wk t.mask h' m').j:=fun i0 e0=>by
   obtain⟨m,j,a1,a2,a3⟩:=T.rea i0 h' e0
   exact⟨m,j,a1,a2,fun m' hm'=>(occ _).mpr (.inl (a3 m' hm'))⟩
  split at e
  ·rw[if_pos (by assumption)];exact old i e
  ·split at e
   ·cases e
    rw[if_neg (by assumption),if_pos (by assumption)]
    exact⟨M,_,rfl,rfl,fun m' hm'=>(occ _).mpr (.inl (hb m' hm'))⟩
   ·rw[if_neg (by assumption),if_neg (by assumption)];exact old (i-1) e
end
end Sx
namespace Sx
open PySem PySem.SetTable
noncomputable def aI6(ow:Array (Option Nat))(j:Nat):Prop:=∃ k,ow[j]? = some (some k)
structure LOk(mask:Nat)(ow:Array (Option Nat))(hs:List Int):Prop where
 sz:ow.size=mask+1
 bd:∀ (j k:Nat),ow[j]? = some (some k)->k < hs.length
 one:∀ (j j' k:Nat),ow[j]? = some (some k)->ow[j']? = some (some k)->j=j'
 rea:∀ (k:Nat) h,hs[k]? = some h->∃ m,ow[(wk mask h m).j]? = some (some k)/\∀ m',m' < m->aI6 ow (wk mask h m').j
theorem cC8{ow:Array (Option Nat)}{j:Nat}(hj:j < ow.size):(ow.getD j (some 0)).isNone=true↔¬ aI6 ow j:=by
 have e:ow[j]? = some ow[j]:=Array.getElem?_eq_getElem hj
 rw[Array.getD_eq_getD_getElem?,e]
 show ow[j].isNone=true↔_
 constructor
 ·rintro h ⟨k,hk⟩
  rw[e]at hk
  rw[Option.some.inj hk]at h
  cases h
 ·intro h
  cases hc:ow[j]with
  | none=>rfl
  | some k=>exact absurd ⟨k,by rw[e,hc]⟩ h
theorem xH{mask:Nat}{ow:Array (Option Nat)}(hs:ow.size=mask+1)(h:Int){L:Nat}(hL:¬ aI6 ow (lp mask h L).1) :
  ∀ (fuel l:Nat),l<=L->L < l+fuel->(∀ m,m < tm mask h l->aI6 ow (wk mask h m).j) ->
    ∃ M,layClean.free mask ow fuel (lp mask h l).1 (lp mask h l).2=some (wk mask h M).j/\¬ aI6 ow (wk mask h M).j/\∀ m,m < M->aI6 ow (wk mask h m).j
 | 0,l,h1,h2,_=>by omega
 | fuel+1,l,h1,h2,hb=>by
   have hin:∀ r,r<=pA mask (lp mask h l).1->(lp mask h l).1+r < ow.size:=fun r hr=>by
    have:=aR3 (Nat.le_of_lt_succ (bV8 mask h l)) r hr
    omega
   have hrl:runEnd mask (lp mask h l).1+1-(lp mask h l).1=pA mask (lp mask h l).1+1:=by
    unfold pA runEnd
    split<;>omega
   have wj:∀ r,r<=pA mask (lp mask h l).1->(wk mask h (tm mask h l+r)).j=(lp mask h l).1+r:=fun r hr=>by rw[aR1 (qZ mask h l) r hr]
   unfold layClean.free
   split
   ·rename_i k hk
    obtain⟨a1,a2,a3⟩:=List.find?_range_eq_some.mp hk
    rw[List.mem_range,hrl]at a2
    have hk':k<=pA mask (lp mask h l).1:=by omega
    refine⟨tm mask h l+k,by rw[wj k hk'],?_,fun m hm=>?_⟩
    ·rw[wj k hk'];exact(cC8 (hin k hk')).mp a1
    ·by_cases hm':m < tm mask h l
     ·exact hb m hm'
     ·obtain⟨r,rfl⟩:∃ r,m=tm mask h l+r:=⟨m-tm mask h l,by omega⟩
      rw[wj r (by omega)]
      have:=a3 r (by omega)
      refine Classical.byContradiction fun z=>?_
      rw[(cC8 (hin r (by omega))).mpr z]at this
      cases this
   ·rename_i hk
    have hall:∀ r,r<=pA mask (lp mask h l).1->aI6 ow ((lp mask h l).1+r):=fun r hr=>by
     have:=List.find?_eq_none.mp hk r (by rw[List.mem_range,hrl];omega)
     exact Classical.byContradiction fun z=>this ((cC8 (hin r hr)).mpr z)
    have hlL:l≠L:=fun z=>by
     subst z
     exact hL (by simpa using hall 0 (Nat.zero_le _))
    refine xH hs h hL fuel (l+1) (by omega) (by omega) fun m hm=>?_
    have hm2:m < tm mask h l+pA mask (lp mask h l).1+1:=hm
    by_cases hm':m < tm mask h l
    ·exact hb m hm'
    ·obtain⟨r,rfl⟩:∃ r,m=tm mask h l+r:=⟨m-tm mask h l,by omega⟩
     rw[wj r (by omega)]
     exact hall r (by omega)
section
variable{mask:Nat}{ow:Array (Option Nat)}{hs:List Int}
theorem LOk.free(T:LOk mask ow hs)(hn:hs.length<=mask):∃ c,c<=mask/\¬ aI6 ow c:=by
 refine Classical.byContradiction fun hno=>?_
 have hall:∀ c,c<=mask->aI6 ow c:=fun c hc=>Classical.byContradiction fun z=>hno ⟨c,hc,z⟩
 let f:Nat->Nat:=fun c=>(ow.getD c none).getD 0
 have fb:∀ c,c<=mask->ow[c]? = some (some (f c)):=fun c hc=>by
  obtain⟨k,e⟩:=hall c hc
  have:f c=k:=by
   show(ow.getD c none).getD 0=k
   rw[Array.getD_eq_getD_getElem?,e];rfl
  rw[this];exact e
 have fi:∀ a b,a < b->b<=mask->f a≠f b:=fun a b hab hb e=>by
  have h1:=fb a (by omega)
  rw[e]at h1
  have:=T.one a b _ h1 (fb b hb)
  omega
 obtain⟨i,hi,e⟩:=oF hs.length f (fun i h=>T.bd _ _ (fb i (by omega))) (fun a b hab hb=>fi a b hab (by omega)) (f hs.length) (T.bd _ _ (fb hs.length hn))
 exact fi i hs.length hi hn e
theorem LOk.lay{k:Nat}(hk:mask+1=2 ^ k)(T:LOk mask ow hs)(hn:hs.length<=mask)(h:Int):∃ j,layClean.free mask ow (turns mask) (bits h % (mask+1)) (bits h)=some j/\LOk mask (ow.setIfInBounds j (some hs.length)) (hs++[h]):=by
 obtain⟨c,hc,hf⟩:=T.free hn
 obtain⟨n,hn2,e⟩:=aR0 (k:=k) (x:=(lp mask h 13).1) (c:=c) (by omega)
 have hL:¬ aI6 ow (lp mask h (13+n)).1:=by rw[aD5 hk h n,e];exact hf
 obtain⟨M,h1,h2,h3⟩:=xH T.sz h hL (turns mask) 0 (Nat.zero_le _) (by show 13+n < 0+(mask+15);omega) (fun m hm=>absurd hm (Nat.not_lt_zero _))
 refine⟨_,h1,?_⟩
 have hj:(wk mask h M).j < ow.size:=by rw[T.sz];exact Nat.lt_succ_of_le (bV9 h M)
 have gs:∀ c,(ow.setIfInBounds (wk mask h M).j (some hs.length))[c]? = if(wk mask h M).j=c then some (some hs.length)else ow[c]?:=fun c=>by
  rw[Array.getElem?_setIfInBounds]
  split
  ·first | rfl | rw[if_pos hj]
  ·rfl
 have occ:∀ {c},aI6 ow c->aI6 (ow.setIfInBounds (wk mask h M).j (some hs.length)) c:=fun{c} ⟨k',e'⟩=>by
  refine⟨k',?_⟩
  rw[gs,if_neg (fun z=>h2 ⟨k',by rw[z];exact e'⟩)];exact e'
 refine⟨by rw[Array.size_setIfInBounds];exact T.sz,fun j k' e'=>?_,fun j j' k' e1 e2=>?_,fun k' h' e'=>?_⟩
 ·rw[gs]at e'
  rw[List.length_append]
  split at e'
  ·cases e';simp
  ·have:=T.bd _ _ e';simp;omega
 ·rw[gs]at e1 e2
  split at e1
  ·cases e1
   split at e2
   ·omega
   ·have:=T.bd _ _ e2;omega
  ·split at e2
   ·cases e2;have:=T.bd _ _ e1;omega
   ·exact T.one _ _ _ e1 e2
 ·by_cases hlt:k' < hs.length
  ·rw[List.getElem?_append_left hlt]at e'
   obtain⟨m,a1,a2⟩:=T.rea k' h' e'
   refine⟨m,?_,fun m' hm'=>occ (a2 m' hm')⟩
   rw[gs,if_neg (fun z=>h2 ⟨k',by rw[z];exact a1⟩)];exact a1
  ·rw[List.getElem?_append_right (by omega)]at e'
   have hk0:k'=hs.length:=by
    have:=(List.getElem?_eq_some_iff.mp e').1
    simp at this;omega
   subst hk0
   have:h'=h:=by simpa using e'.symm
   subst this
   exact⟨M,by rw[gs,if_pos rfl],fun m' hm'=>occ (h3 m' hm')⟩
end
theorem jM{mask k:Nat}(hk:mask+1=2 ^ k):∀ (eE:List Int) (hs:List Int) (ow:Array (Option Nat)),LOk mask ow hs->hs.length+eE.length<=mask+1 ->
  ∃ ow',eE.foldl (fun acc h=>do
    let (owner,k) ← acc
    let j ← layClean.free mask owner (turns mask) (bits h % (mask+1)) (bits h)
    pure (owner.setIfInBounds j (some k),k+1)) (some (ow,hs.length))=some (ow',hs.length+eE.length)/\LOk mask ow' (hs++eE)
 | [],hs,ow,T,_=>⟨ow,by simp,by simpa using T⟩
 | h::eE,hs,ow,T,hl=>by
   rw[List.length_cons]at hl
   obtain⟨j,e,T'⟩:=T.lay hk (by omega) h
   obtain⟨ow',e2,T2⟩:=jM hk eE (hs++[h]) _ T' (by rw[List.length_append,List.length_singleton];omega)
   refine⟨ow',?_,by simpa using T2⟩
   rw[List.foldl_cons]
   rw[List.length_append,List.length_singleton]at e2
   have e3:hs.length+(h::eE).length=hs.length+1+eE.length:=by rw[List.length_cons];omega
   rw[e3,← e2]
   congr 1
   show((layClean.free mask ow (turns mask) (bits h % (mask+1)) (bits h)).bind fun j=>some (ow.setIfInBounds j (some hs.length),hs.length+1))=_
   rw[e];rfl
theorem bJ9(mask:Nat):LOk mask (Array.replicate (mask+1) none) []:=by
 refine⟨by simp,fun j k e=>?_,fun j j' k e=>?_,fun k h e=>by simp at e⟩
 all_goals
  rw[Array.getElem?_replicate]at e
  split at e<;>cases e
theorem xI{mask k finger moves:Nat}{led plain:Bool}{hashes:Array Int}(hk:mask+1=2 ^ k)(h7:7<=mask)(hn:hashes.size<=mask) :
  ∃ t order,laid mask finger moves led plain hashes=some (t,order)/\TOk t (order.toList.filterMap (hashes[·]?))/\order.toList.Perm (List.range hashes.size)/\t.mask=mask/\t.place.size=hashes.size/\t.led=led/\t.plain=plain:=by
 obtain⟨ow,e,T⟩:=jM hk hashes.toList [] _ (bJ9 mask) (by rw[Array.length_toList];simp;omega)
 rw[List.nil_append]at T
 have el:layClean mask hashes=some ow:=by
  unfold layClean
  rw[← Array.foldl_toList]
  have e':=e
  rw[List.length_nil,Nat.zero_add]at e'
  rw[e'];rfl
 let g:Nat->Option (Nat×Nat):=fun j=>(ow.getD j none).map (j,·)
 have gd:∀ j p,g j=some p↔p.1=j/\ow[j]? = some (some p.2):=fun j p=>by
  show(ow.getD j none).map (j,·)=some p↔_
  rw[Array.getD_eq_getD_getElem?]
  cases hq:ow[j]? with
  | none=>simp
  | some o=>
    cases o with
    | none=>simp
    | some k'=>
      obtain⟨a,b⟩:=p
      simp
      intro _
      exact⟨fun z=>z.symm,fun z=>z.symm⟩
 let live:=(List.range (mask+1)).filterMap g
 have mem:∀ p,p∈live↔ow[p.1]? = some (some p.2):=fun p=>by
  rw[List.mem_filterMap]
  constructor
  ·rintro⟨j,_,h⟩;obtain⟨rfl,h'⟩:=(gd j p).mp h;exact h'
  ·intro h
   have:p.1 < mask+1:=by rw[← T.sz];exact(Array.getElem?_eq_some_iff.mp h).1
   exact⟨p.1,List.mem_range.mpr this,(gd _ _).mpr ⟨rfl,h⟩⟩
 have pw:live.Pairwise (fun a b=>a.1 < b.1):=List.Pairwise.filterMap g (fun a a' h b hb b' hb'=>by
  rw[((gd _ _).mp hb).1,((gd _ _).mp hb').1];exact h) List.pairwise_lt_range
 have ri:∀ (i j:Nat) p q,i < j->live[i]? = some p->live[j]? = some q->p.1 < q.1:=fun i j p q hij ei ej=>by
  obtain⟨hi,rfl⟩:=List.getElem?_eq_some_iff.mp ei
  obtain⟨hj,rfl⟩:=List.getElem?_eq_some_iff.mp ej
  exact List.pairwise_iff_getElem.mp pw i j hi hj hij
 have nd:(live.map (·.2)).Nodup:=by
  rw[List.nodup_iff_pairwise_ne,List.pairwise_map]
  refine List.Pairwise.imp_of_mem (fun{a b} ha hb hab e=>?_) pw
  have h1:=(mem a).mp ha
  have h2:=(mem b).mp hb
  rw[← e]at h2
  have:=T.one _ _ _ h1 h2
  omega
 have hlen:hashes.toList.length=hashes.size:=Array.length_toList
 have perm:(live.map (·.2)).Perm (List.range hashes.size):=(List.perm_ext_iff_of_nodup nd List.nodup_range).mpr fun a=>by
  rw[List.mem_map,List.mem_range]
  constructor
  ·rintro⟨p,hp,rfl⟩;rw[← hlen];exact T.bd _ _ ((mem p).mp hp)
  ·intro ha
   obtain⟨m,h1,_⟩:=T.rea a hashes.toList[a] (List.getElem?_eq_getElem (by omega))
   exact⟨((wk mask hashes.toList[a] m).j,a),(mem _).mpr h1,rfl⟩
 have ll:live.length=hashes.size:=by have:=perm.length_eq;simpa using this
 have hfm:(live.map (·.2)).filterMap (hashes[·]?)=live.map fun p=>hashes.toList.getD p.2 0:=by
  have key:∀ l:List (Nat×Nat),(∀ p∈l,p.2 < hashes.toList.length)->(l.map (·.2)).filterMap (hashes[·]?)=l.map fun p=>hashes.toList.getD p.2 0:=by
   intro l
   induction l with
   | nil=>intro _;rfl
   | cons p r ih=>
     intro hb
     have h1:=hb p List.mem_cons_self
     have e1:hashes[p.2]? = some (hashes.toList.getD p.2 0):=by
      rw[← Array.getElem?_toList,List.getD_eq_getElem?_getD,List.getElem?_eq_getElem h1];rfl
     rw[List.map_cons,List.filterMap_cons,e1,List.map_cons,ih fun q hq=>hb q (List.mem_cons_of_mem _ hq)]
  exact key live fun p hp=>T.bd _ _ ((mem p).mp hp)
 refine⟨⟨mask,(live.map (·.1)).toArray,#[],finger,led,moves,plain⟩,(live.map (·.2)).toArray,?_,?_,perm,rfl,by simpa using ll,rfl,rfl⟩
 ·unfold laid
  rw[el];rfl
 ·have pl:∀ (i j:Nat),(live.map (·.1)).toArray[i]? = some j↔∃ p,live[i]? = some p/\p.1=j:=fun i j=>by
   rw[List.getElem?_toArray,List.getElem?_map];exact Option.map_eq_some_iff
  have occ:∀ c,Occ (⟨mask,(live.map (·.1)).toArray,#[],finger,led,moves,plain⟩:SetTable) c↔aI6 ow c:=fun c=>by
   constructor
   ·rintro⟨i,h⟩
    obtain⟨p,e1,rfl⟩:=(pl i c).mp h
    exact⟨p.2,(mem p).mp (List.mem_of_getElem? e1)⟩
   ·rintro⟨k',h⟩
    obtain⟨i,hi,e1⟩:=List.getElem_of_mem ((mem (c,k')).mpr h)
    exact⟨i,(pl i c).mpr ⟨(c,k'),by rw[List.getElem?_eq_getElem hi,e1],rfl⟩⟩
  refine⟨⟨k,hk⟩,h7,rfl,?_,?_,?_,?_,?_⟩
  ·intro i j a b hij ea eb
   obtain⟨p,e1,rfl⟩:=(pl i a).mp ea
   obtain⟨q,e2,rfl⟩:=(pl j b).mp eb
   exact ri i j p q hij e1 e2
  ·intro i j e'
   obtain⟨p,e1,rfl⟩:=(pl i j).mp e'
   have h1:=(mem p).mp (List.mem_of_getElem? e1)
   have h2:=(Array.getElem?_eq_some_iff.mp h1).1
   rw[T.sz]at h2
   exact Nat.le_of_lt_succ h2
  ·show(live.map (·.1)).toArray.size=((live.map (·.2)).toArray.toList.filterMap (hashes[·]?)).length
   rw[show(live.map (·.2)).toArray.toList=live.map (·.2)from rfl,hfm];simp
  ·show(live.map (·.1)).toArray.size<=mask
   simp[ll];omega
  ·intro i h' e'
   rw[show(live.map (·.2)).toArray.toList=live.map (·.2)from rfl,hfm,List.getElem?_map]at e'
   obtain⟨p,e1,e2⟩:=Option.map_eq_some_iff.mp e'
   have hp:=(mem p).mp (List.mem_of_getElem? e1)
   have hb:=T.bd _ _ hp
   have e3:hashes.toList[p.2]? = some h':=by
    rw[← e2,List.getD_eq_getElem?_getD,List.getElem?_eq_getElem hb];rfl
   obtain⟨m,a1,a2⟩:=T.rea p.2 h' e3
   have:=T.one _ _ _ a1 hp
   exact⟨m,p.1,(pl i p.1).mpr ⟨p,e1,rfl⟩,this,fun m' hm'=>(occ _).mpr (a2 m' hm')⟩
end Sx
namespace Dv
open PySem L2 Mr
section
variable{Γ:Gm}{H H1:Hp}{σ σ1:Sg}{σV:St}{p:Addr}{o o':HO}
theorem StOk.beside(ok:StOk Γ H σ σV)(hp:H p=some o)(n1:∀ xs,o≠.tup xs)(n2:∀ ob u,o≠.frz ob u)(nv:¬ aM8 σ σV p)(h0:Γ.H₀ p=none):StOk Γ (upd H p o') σ σV:=by
 have x:Ext H (upd H p o'):=⟨fun b xs q=>by rw[aH (fun z=>by subst z;rw[hp]at q;cases q;exact n1 _ rfl)];exact q,fun b ob u q=>by rw[aH (fun z=>by subst z;rw[hp]at q;cases q;exact n2 _ _ rfl)];exact q⟩
 refine⟨fun i s e=>?_,ok.dis,ok.own,ok.par,fun a ob e n=>?_,fun a e=>?_,ok.len⟩
 ·obtain⟨v,e1,r⟩:=ok.rel i s e
  refine⟨v,e1,r.mono x fun q ob eq m e2=>?_⟩
  rw[aH (fun z=>nv ⟨i,s,e,m,by rw[e1,eq,z]⟩)];exact e2
 ·rw[aH (fun z=>by rw[z,h0]at e;cases e)];exact ok.keep a ob e n
 ·by_cases z:a=p
  ·subst z;rw[aT]at e;cases e
  ·rw[aH z]at e;exact ok.dom a e
theorem Step.beside(st:Step σ σV H σ1 σV H1)(hp:H p=none):Step σ σV H σ1 σV (upd H1 p o'):=
 ⟨fun a ob e n=>by rw[aH (fun z=>by subst z;rw[hp]at e;cases e)];exact st.fr a ob e n,fun a e=>by
  by_cases z:a=p
  ·subst z;exact hp
  ·rw[aH z]at e;exact st.dom a e,st.mu,st.nv,st.kp,st.fix,st.lt⟩
end
theorem aR{X:Cx}{E:Ex}{i:Nat}{x:Str}{e:Expr}{r:DE}{pos pos':Pos}(hN:X.N.Nodup)(hi:X.N[i]? = some x)(hx:Loc X.env.scope x)(he:GE X e r)(hs:swapsWith e (some (.Name x pos')) pos.line X.env=pure false:=by rfl)(hf:X.fn x=true\/X.env.scope.names.lookup x=some .local:=by first | exact .inl rfl | exact .inr rfl | assumption) :
  GS E X (.Assign [.Name x pos'] e pos) (fM i r):=bT2 fun Γ=>bQ1 hN hi hx (he.to Γ) hs hf
theorem xJ{z:Str}{i:Int}{K:Res->Prop}:OK1 (ixD (.str z) (.int i)) K=(z.length<=sizeLine/\OK1 (atI z.cps.toList i) fun c=>K (.val (.str ⟨#[c]⟩))):=by
 show OK1 (if _ then _ else none) K=_
 rw[bI,sJ]
theorem kI{z:Str}{K:Res->Prop}(h:z.length<=sizeLine):OK1 (pT [.str z]) K=K (.val (.int z.length)):=by
 show OK1 (if _ then _ else none) K=_
 rw[bI]
 exact propext ⟨fun h=>h.2,fun k=>⟨h,k⟩⟩
@[irreducible] noncomputable def aI7(ow:List Nat)(g:DG)(t:DT)(e:DE)(items:List D)(τ:Sg):=zD ow g t e items τ
@[irreducible] noncomputable def bZ1(g:DG)(b:DS)(items:List D)(σ:Sg):=aY9 g b items σ
@[irreducible] noncomputable def aD7(c:DT)(b:DS)(σ:Sg):=kS c b bM2 σ
section
variable{σ:Sg}{QS:Out->Prop}{Q:Res->Sg->Prop}{ri:DI}{g:DG}{b:DS}{a:DE}{ra:DA}
theorem oK:RS (aZ0 ri g b) σ QS=RI ri σ fun items l σ1=>OK1 (bZ1 g b items (lendO l σ1)) fun o=>QS (aC2 l σ1 o):=by
 unfold bZ1;exact bV1
theorem iA{c:DT}:RS (aC3 c b) σ QS=OK1 (aD7 c b σ) QS:=by unfold aD7;rfl
theorem jN{ow:List Nat}{t:DT}{e:DE}:RE (fY ow ri g t e) σ Q=RI ri σ fun items l σ1=>items.length<=sizeLine/\OK1 (aI7 ow g t e items (bN ow (lendO l σ1))) fun y=>Q (.own (.lst y.1)) (aJ6 l σ1 (jE ow (lendO l σ1) y.2)):=by
 unfold aI7;exact bJ1
theorem zN{items:List D}(P:Nat->Sg->Prop)(h0:P 0 σ)(hs:∀ i d σ,items[i]? = some d->P i σ->OK1 (g d σ) fun σ1=>RS b σ1 fun o=>∃ σ2,(o=.nx σ2\/o=.ct σ2)/\P (i+1) σ2){K:Out->Prop}(k:∀ σ',P items.length σ'->K (.nx σ')):OK1 (bZ1 g b items σ) K:=by
 unfold bZ1;exact bJ0 P h0 hs k
theorem aI8{c:DT}(P:Nat->Sg->Prop)(m:Nat)(hm:m < 1000000)(h0:P m σ)(hs:∀ m σ,P m σ->RT c σ fun t σ1=>if t=true then RS b σ1 fun o=>(∃ σ2 m',(o=.nx σ2\/o=.ct σ2)/\m' < m/\P m' σ2)\/(∃ x σ2,o=.rt x σ2/\QS (.rt x σ2))\/(∃ σ2,o=.bk σ2/\QS (.nx σ2))else QS (.nx σ1)):OK1 (aD7 c b σ) QS:=by
 unfold aD7;exact aP6 P m hm h0 hs
theorem iB{ow:List Nat}{t:DT}{e:DE}{K:List D×Sg->Prop}(items:List D)(τ:Sg)(P:Nat->List D->Sg->Prop)(h0:P 0 [] τ)
  (hs:∀ i d acc τ,items[i]? = some d->P i acc τ->OK1 (g d τ) fun τ1=>RT t τ1 fun b τ2=>if b=true then RE e τ2 fun r τ3=>∃ v,r=.val v/\P (i+1) (acc++[v]) (bN ow τ3)else P (i+1) acc (bN ow τ2))
  (k:∀ acc τ,P items.length acc τ->K (acc,τ)):OK1 (aI7 ow g t e items τ) K:=by
 unfold aI7;exact nF items τ P h0 hs k
end
end Dv
namespace PySem
structure Fill(prog:Program)(w:World)(A:Around)(S I:Addr)(n:Nat)(P:Nat->Value->Prop)(J:Nat->Heap->Prop):Prop where
 put:∀ i v (s:Shared) (Q:Bool->Shared->Prop) (E:Value->Shared->Prop),i < n->P i v->J i s.heap ->
  (∀ b h' tk,J (i+1) h'->(∀ c o,c≠S->s.heap.get? c=some o->h'.get? c=some o)->Q b {s with heap:=h',toks:=tk})->wpAny (model prog w) A (setAdd S v) Q E s
 stay:∀ i h h',J i h->(∀ c o,c≠I->h.get? c=some o->h'.get? c=some o)->J i h'
section
variable{prog:Program}{w:World}{A:Around}{E:Value->Shared->Prop}{R:Result->Shared->Prop}{S I:Addr}{fp:List Addr}{n:Nat}{P:Nat->Value->Prop}{St J:Nat->Heap->Prop}
theorem xK(W:Walks prog w A.in1 I fp [I] n P St)(F:Fill prog w A.in1 S I n P J)(hS:S∉fp) :
  ∀ (k i:Nat) (s:Shared),i+k=n->St i s.heap->J i s.heap ->
    (∀ h' tk,J n h'->(∀ c o,c≠S->c≠I->s.heap.get? c=some o->h'.get? c=some o)->R (.ok (.ret .none)) {s with heap:=h',toks:=tk}) ->
    codeAny (model prog w) A (.builtin "set.update.loop" ⟨[.ref S,.ref I],[]⟩) R s
 | 0,i,s,hk,st,j,q=>by
   have hi:i=n:=hk
   subst hi
   refine codeAny_builtin PyProof.Rows.F.entry_set_update_loop ?_
   rw[Around.under_plainId PyProof.Rows.F.plain_set_update_loop _]
   (show wpAny _ A.in1 (pyNext (.ref I) >>= _) _ _ s;refine wpAny_bind (W.done s _ _ st fun h' tk hk'=>?_))
   have k':∀ c o,c≠I->s.heap.get? c=some o->h'.get? c=some o:=fun c o hc e=>hk' c o (by simpa using hc) e
   exact wpAny_pure (q h' tk (F.stay _ _ _ j k') fun c o _ hc e=>k' c o hc e)
 | k+1,i,s,hk,st,j,q=>by
   have hi:i < n:=by omega
   refine codeAny_builtin PyProof.Rows.F.entry_set_update_loop ?_
   rw[Around.under_plainId PyProof.Rows.F.plain_set_update_loop _]
   (show wpAny _ A.in1 (pyNext (.ref I) >>= _) _ _ s;refine wpAny_bind (W.item i s _ _ hi st fun v h1 tk1 hv st1 hk1=>?_))
   have k1:∀ c o,c≠I->s.heap.get? c=some o->h1.get? c=some o:=fun c o hc e=>hk1 c o (by simpa using hc) e
   (show wpAny _ A.in1 (holding [v] (setAdd S v) >>= _) _ _ _;refine wpAny_bind (wpAny_holding ?_))
   refine F.put i v _ _ _ hi hv (F.stay _ _ _ j k1) fun b h2 tk2 j2 k2=>?_
   refine wpAny_pure ⟨plainId_quiet PyProof.Rows.F.plain_set_update_loop _,?_⟩
   have st2:St (i+1) h2:=W.frame _ _ _ st1 fun c hc o e=>k2 c o (fun z=>hS (z ▸ hc)) e
   exact xK W F hS k (i+1) _ (by omega) st2 j2 fun h' tk jn kn=>q h' tk jn fun c o c1 c2 e=>kn c o c1 c2 (k2 c o c1 (k1 c o c2 e))
theorem bK0{T newId initId:String}{args:List Value}{Q Q₁:Value->Shared->Prop}{s:Shared}(ft:TypeCalled T newId initId)(hct:checkTypeCall T ⟨args,[]⟩=pure ())
  (hnew:codeAny (model prog w) A.in1 (.call (.builtin newId) ⟨.type T::args,[]⟩) (wants Q₁ E) s)
  (hini:∀ obj s₁,Q₁ obj s₁->s₁.TypeIs obj T/\codeAny (model prog w) A.in1 (.call (.builtin initId) ⟨obj::args,[]⟩) (wants (fun r s₂=>r=.none/\Q obj s₂) E) s₁) :
  wpAny (model prog w) A (call (.type T) args) Q E s:=by
 obtain⟨n1,n2,⟨c,tl,n3⟩,n4,n5,n6,n7⟩:=ft
 have hl:=n7.lookup
 refine wpAny_call (codeAny_of_tree (wpAny_pure ⟨Code.quiet_builtin _ (by decide +kernel),codeAny_builtin F.entry_type_call ?_⟩))
 rw[Around.under_plain (weight_type_call_type T args []) rfl]
 repeat (any_goals (first | assumption | wp_step))
 refine codeAny_mono hnew fun r s1 hr=>?_
 match r,hr with
 | .error e,hr=>exact hr
 | .ok (.ret obj),hr=>
   obtain⟨hT,hi⟩:=hini obj s1 hr
   have hb:=n7.bind obj
   repeat (any_goals (first | assumption | wp_step))
   refine codeAny_mono hi fun r s2 hr=>?_
   match r,hr with
   | .error e,hr=>exact hr
   | .ok (.ret x),⟨hx,hq⟩=>
     subst hx
     repeat (any_goals (first | assumption | wp_step))
end
end PySem
namespace PySem
noncomputable abbrev aI9(es:Array (Int×Value))(ep:Nat)(t:SetTable):Obj:={cls:=.type "set",dict:=none,data:=.set es ep t}
noncomputable def cF(w:World):Bool:=!w.params.followText "set-order"
section
variable{prog:Program}{w:World}{A:Around}{E:Value->Shared->Prop}{s:Shared}
theorem bK1(a:Value){Q:Value->Shared->Prop}(h:Q (.ref s.heap.objs.size) {s with heap:=s.heap.push (aI9 #[] 0 (.fresh 0 0 (cF w)))}) :
  codeAny (model prog w) A (.call (.builtin "set.__new__") ⟨[.type "set",a],[]⟩) (wants Q E) s:=by
 refine codeAny_call_builtin F.plain_set_new F.entry_set_new (wpAny_of_eq (F.newCall_set_1 a) ?_)
 have hsub:=sub_set_self
 unfold Builtin.«set.__new__» Builtin.Frozenset.newClass
 obtain⟨hp,g,d,tk,os⟩:=s
 wp_walk
 refine wpAny_askSetting (wpAny_pure ?_)
 simp only[newObj]
 exact wpAny_bind (wpAny_alloc (wpAny_pure (wpAny_pure h)))
end
section
variable{prog:Program}{w:World}{A:Around}{E:Value->Shared->Prop}{n:Nat}{P:Nat->Value->Prop}{St J:Nat->Heap->Prop}
structure Src(prog:Program)(w:World)(A:Around)(h₀:Heap)(l:Addr)(n:Nat)(P:Nat->Value->Prop) where
 T:String
 St:Addr->Nat->Heap->Prop
 ob:Obj
 ty:∃ o,h₀.get? l=some o/\o.cls=.type T
 n1:isSubtype (.type T) (.type "set")=pure false
 n2:isSubtype (.type T) (.type "frozenset")=pure false
 n3:(Value.type T==Value.type "dict")=false
 iter:∀ (A:Around) (s:Shared) (Q:Value->Shared->Prop) (E:Value->Shared->Prop),(∀ b o,h₀.get? b=some o->s.heap.get? b=some o)->Q (.ref s.heap.objs.size) {s with heap:=s.heap.push ob}->wpAny (model prog w) A (pyIter (.ref l)) Q E s
 free:ob.isFreed=false
 walk:∀ (A':Around),A'.handled=A.handled->∀ I,l≠I->Walks prog w A' I [I,l] [I] n P (St I)
 fV:∀ h:Heap,(∀ b o,h₀.get? b=some o->h.get? b=some o)->St h.objs.size 0 (h.push ob)
theorem aD8{s:Shared}{l:Addr}{Q:Value->Shared->Prop}(c:Src prog w A s.heap l n P)
  (L:∀ A':Around,A'.handled=A.handled->A'.units<=A.units+8->Fill prog w A' s.heap.objs.size (s.heap.objs.size+1) n P J)
  (j0:∀ (h':Heap),h'.get? s.heap.objs.size=some (aI9 #[] 0 (.fresh 0 0 (cF w)))->(∀ b o,s.heap.get? b=some o->h'.get? b=some o)->J 0 h')
  (q:∀ h' tk,J n h'->(∀ b o,s.heap.get? b=some o->h'.get? b=some o)->Q (.ref s.heap.objs.size) {s with heap:=h',toks:=tk}) :
  wpAny (model prog w) A (call (.type "set") [.ref l]) Q E s:=by
 obtain⟨T,St,ob,⟨⟨ocls,odict,odata,oslots⟩,hol,hcl⟩,n1,n2,n3,iter,free,walk,fV⟩:=c
 simp only at hcl
 subst hcl
 have hlt:l < s.heap.objs.size:=Heap.lt_size hol
 refine bK0 (Q₁:=fun obj s₁=>obj=.ref s.heap.objs.size/\s₁={s with heap:=s.heap.push (aI9 #[] 0 (.fresh 0 0 (cF w)))}) F.called_set (F.typeCall_set_1 _) (bK1 _ ⟨rfl,rfl⟩) fun obj s₁ ⟨e1,e2⟩=>?_
 subst e1 e2
 have hS:(s.heap.push (aI9 #[] 0 (.fresh 0 0 (cF w)))).get? s.heap.objs.size=some (aI9 #[] 0 (.fresh 0 0 (cF w))):=Heap.get?_push_size _ rfl
 have old:∀ b o,s.heap.get? b=some o->(s.heap.push (aI9 #[] 0 (.fresh 0 0 (cF w)))).get? b=some o:=fun b o e=>Heap.get?_push_of_some _ e
 have hT:Shared.TypeIs {s with heap:=s.heap.push (aI9 #[] 0 (.fresh 0 0 (cF w)))} (.ref s.heap.objs.size) "set":=⟨_,hS,rfl⟩
 have hTl:Shared.TypeIs {s with heap:=s.heap.push (aI9 #[] 0 (.fresh 0 0 (cF w)))} (.ref l) T:=⟨_,old l _ hol,rfl⟩
 refine⟨hT,codeAny_call_builtin F.called_set.init.plain F.entry_set_init (check_set_init_1 hT ?_)⟩
 have hl2:=old l _ hol
 unfold Builtin.«set.__init__» noKeywords Builtin.Frozenset.updateFrom
 generalize hPI:pyIter=PI
 wp_walk
 subst hPI
 refine iter _ _ _ _ old ?_
 refine wpAny_bind (wpAny_runValue ?_)
 have hz:(s.heap.push (aI9 #[] 0 (.fresh 0 0 (cF w)))).objs.size=s.heap.objs.size+1:=Heap.size_push ..
 have ne:l≠s.heap.objs.size+1:=fun z=>absurd hlt (by rw[z];exact Nat.not_lt.mpr (Nat.le_succ _))
 have st0:=fV _ old
 rw[hz]at st0
 have hS2:((s.heap.push (aI9 #[] 0 (.fresh 0 0 (cF w)))).push ob).get? s.heap.objs.size=some (aI9 #[] 0 (.fresh 0 0 (cF w))):=Heap.get?_push_of_some _ hS
 have old2:∀ b o,s.heap.get? b=some o->((s.heap.push (aI9 #[] 0 (.fresh 0 0 (cF w)))).push ob).get? b=some o:=fun b o e=>Heap.get?_push_of_some _ (old b o e)
 show codeAny (model prog w) A.in1.in1 (.builtin "set.update.loop" ⟨[.ref s.heap.objs.size,.ref (s.heap.push (aI9 #[] 0 (.fresh 0 0 (cF w)))).objs.size],[]⟩) _ _
 rw[hz]
 refine xK (walk A.in1.in1.in1 rfl (s.heap.objs.size+1) ne) (L A.in1.in1.in1 rfl (by show A.units+1+1+1<=A.units+8;omega)) ?_ n 0 _ (Nat.zero_add n) st0 (j0 _ hS2 old2) fun h' tk jn kn=>?_
 ·simp only[List.mem_cons,List.not_mem_nil,or_false,not_or]
  exact⟨Nat.ne_of_lt (Nat.lt_succ_self _),Nat.ne_of_gt hlt⟩
 ·refine wpAny_pure (wpAny_pure ⟨rfl,q h' tk jn fun b o e=>?_⟩)
  have hb:=Heap.lt_size e
  exact kn b o (Nat.ne_of_lt hb) (Nat.ne_of_lt (Nat.lt_succ_of_lt hb)) (old2 b o e)
noncomputable def Src.list{s:Shared}(hh:A.handled=none){l:Addr}{items:Array Value}(hl:s.heap.IsList l items):Src prog w A s.heap l items.size (fun i v=>items[i]? = some v) where
 T:="list"
 St:=fun I i h=>h.IsListIter I l i/\h.IsList l items
 ob:={cls:=.type "list_iterator",data:=.fields #[.ref l,.int 0 0]}
 ty:=by obtain⟨o,ho,hc,_⟩:=hl;exact⟨o,ho,hc⟩
 n1:=F.sub_list_set
 n2:=F.sub_list_frozenset
 n3:=by decide
 iter:=fun A' s' Q E hk hq=>wpAny_pyIter_list (hl.at fun o e=>hk l o e) hq
 free:=rfl
 walk:=fun A' ha I hne=>Walks.list (ha.trans hh) I l hne items
 fV:=fun h hk=>⟨⟨_,Heap.get?_push_size _ rfl,rfl,rfl⟩,(hl.at fun o e=>hk l o e).push _⟩
theorem zO:isSubtype (.type "tuple") (.type "set")=pure false:=by rw[isSubtype_type];kernel_rfl
theorem pG:isSubtype (.type "tuple") (.type "frozenset")=pure false:=by rw[isSubtype_type];kernel_rfl
noncomputable def Src.tup{s:Shared}(hh:A.handled=none){l:Addr}{items:Array Value}(hl:s.heap.IsTuple l items):Src prog w A s.heap l items.size (fun i v=>items[i]? = some v) where
 T:="tuple"
 St:=fun I i h=>h.IsTupleIter I l i/\h.IsTuple l items
 ob:={cls:=.type "tuple_iterator",data:=.fields #[.ref l,.int 0 0]}
 ty:=by obtain⟨o,ho,hc,_⟩:=hl;exact⟨o,ho,hc⟩
 n1:=zO
 n2:=pG
 n3:=by decide
 iter:=fun A' s' Q E hk hq=>wpAny_pyIter_tuple (hl.at fun o e=>hk l o e) hq
 free:=rfl
 walk:=fun A' ha I hne=>Walks.tuple (ha.trans hh) I l hne items
 fV:=fun h hk=>⟨⟨_,Heap.get?_push_size _ rfl,rfl,rfl⟩,(hl.at fun o e=>Heap.get?_push_of_some _ (hk l o e))⟩
end
end PySem
namespace Sx
open PySem PySem.SetTable
section
variable{t:SetTable}{hs:List Int}
theorem TOk.stop2(T:TOk t hs)(h:Int):∃ M,M<=10*(13+t.place.size)/\¬ Occ t (wk t.mask h M).j/\∀ m,m < M->Occ t (wk t.mask h m).j:=by
 obtain⟨k,hk⟩:=T.pw
 have hf:=T.fit
 have ex:∃ n,n<=t.place.size/\¬ Occ t (wk t.mask h (tm t.mask h (13+n))).j:=by
  refine Classical.byContradiction fun hn=>?_
  have hall:∀ n,n<=t.place.size->Occ t (stp k n (lp t.mask h 13).1):=fun n hn'=>Classical.byContradiction fun z=>hn ⟨n,hn',by
   rw[qZ,aD5 hk h n];exact z⟩
  let f:Nat->Nat:=fun n=>below t.place (stp k n (lp t.mask h 13).1)
  have fb:∀ n,n<=t.place.size->f n < t.place.size/\t.place[f n]? = some (stp k n (lp t.mask h 13).1):=fun n hn'=>by
   obtain⟨i,e⟩:=hall n hn'
   have:f n=i:=eL T.ri e
   rw[this]
   exact⟨(Array.getElem?_eq_some_iff.mp e).1,e⟩
  have fi:∀ a b,a < b->b<=t.place.size->f a≠f b:=fun a b hab hb e=>by
   have h1:=(fb a (by omega)).2
   rw[e,(fb b hb).2]at h1
   exact aQ9 hab (by omega:b < 2 ^ k) (Option.some.inj h1).symm
  obtain⟨i,hi,e⟩:=oF t.place.size f (fun i h=>(fb i (by omega)).1) (fun a b hab hb=>fi a b hab (by omega)) (f t.place.size) (fb t.place.size (Nat.le_refl _)).1
  exact fi i t.place.size hi (Nat.le_refl _) e
 obtain⟨n,hn,hno⟩:=ex
 have key:∀ N,(∃ m,m < N/\¬ Occ t (wk t.mask h m).j)->∃ M,M < N/\¬ Occ t (wk t.mask h M).j/\∀ m,m < M->Occ t (wk t.mask h m).j:=by
  intro N
  induction N with
  | zero=>rintro⟨m,h,_⟩;exact absurd h (Nat.not_lt_zero _)
  | succ N ih=>
    rintro⟨m,h1,h2⟩
    by_cases hb:∃ m,m < N/\¬ Occ t (wk t.mask h m).j
    ·obtain⟨M,a,b,c⟩:=ih hb
     exact⟨M,by omega,b,c⟩
    ·exact⟨m,h1,h2,fun m' hm'=>Classical.byContradiction fun z=>hb ⟨m',by omega,z⟩⟩
 obtain⟨M,a,b,c⟩:=key (tm t.mask h (13+n)+1) ⟨_,Nat.lt_succ_self _,hno⟩
 have:=bV7 t.mask h (13+n)
 exact⟨M,by omega,b,c⟩
end
end Sx
namespace PySem
open Sx
section
variable{prog:Program}{w:World}{A:Around}{E:Value->Shared->Prop}{s:Shared}
noncomputable abbrev lI(prog:Program)(w:World)(h:Heap)(k:List Int)(a:Addr):Prop:=IsTupleKey (intKind prog w) h k a
theorem lI.at{h h':Heap}{k:List Int}{a:Addr}(x:lI prog w h k a)(e:∀ o,h.get? a=some o->h'.get? a=some o):lI prog w h' k a:=by
 obtain⟨o,items,n,ho,r⟩:=x
 exact⟨o,items,n,e o ho,r⟩
theorem iI:∀ {k:List Int} {vs:List Value},ItemsAre (intKind prog w) k vs->∀ v∈vs,∃ i t,v=.int i t
 | _,_,.nil,v,hv=>by simp at hv
 | _,_,.cons h1 r,v,hv=>by
   rcases List.mem_cons.mp hv with rfl | hv
   ·obtain⟨t,e⟩:=Value.isInt_shape h1
    exact⟨_,t,e⟩
   ·exact iI r v hv
theorem bK2{k:List Int}{a:Addr}{Q:Bool->Shared->Prop}(hk:lI prog w s.heap k a)(h:Q true s):wpAny (model prog w) A (hashByValue 8 (.ref a)) Q E s:=by
 have hT:=hk.typeIs
 obtain⟨o,items,n,ho,_,hd,hi⟩:=hk
 unfold hashByValue
 refine wpAny_bind (wpAny_specialOf hT F.slot_tuple_hash.lookup ?_)
 dsimp only
 refine wpAny_bind (wpAny_seqItems ho hd ?_)
 dsimp only[Option.getD_some]
 refine wpAny_bind ?_
 rw[← Array.forIn_toList]
 refine wpAny_forIn_list _ (fun eE r s'=>r.1=none/\s'=s/\∀ v∈eE,∃ i t,v=.int i t) _ ?_ ?_ _ _ ⟨rfl,rfl,iI hi⟩
 ·rintro v eE r s' ⟨hr,rfl,hall⟩
  obtain⟨i,t,rfl⟩:=hall v List.mem_cons_self
  have e:hashByValue 7 (.int i t)=pure true:=by unfold hashByValue;rfl
  rw[e]
  refine wpAny_bind (wpAny_pure ?_)
  simp only[Bool.not_true,Bool.false_eq_true,if_false]
  exact wpAny_pure ⟨rfl,rfl,fun u hu=>hall u (List.mem_cons_of_mem _ hu)⟩
 ·rintro⟨r1,r2⟩ s' ⟨hr,rfl,_⟩
  simp only at hr
  subst hr
  exact wpAny_pure h
theorem aR4{k:List Int}{a:Addr}{Q:Bool->Shared->Prop}(hk:lI prog w s.heap k a)(h:Q false s):wpAny (model prog w) A (ofAClassStatement 8 (.ref a)) Q E s:=by
 have hT:=hk.typeIs
 obtain⟨o,items,n,ho,_,hd,hi⟩:=hk
 unfold ofAClassStatement
 refine wpAny_bind (wpAny_typeOf hT ?_)
 dsimp only
 rw[if_pos (by decide)]
 refine wpAny_bind (wpAny_pure ?_)
 simp only[Bool.not_true,Bool.false_eq_true,if_false]
 refine wpAny_bind (wpAny_seqItems ho hd ?_)
 dsimp only
 refine wpAny_bind ?_
 rw[← Array.forIn_toList]
 refine wpAny_forIn_list _ (fun eE r s'=>r.1=none/\s'=s/\∀ v∈eE,∃ i t,v=.int i t) _ ?_ ?_ _ _ ⟨rfl,rfl,iI hi⟩
 ·rintro v eE r s' ⟨hr,rfl,hall⟩
  obtain⟨i,t,rfl⟩:=hall v List.mem_cons_self
  have e:ofAClassStatement 7 (.int i t)=pure false:=by unfold ofAClassStatement;rfl
  rw[e]
  refine wpAny_bind (wpAny_pure ?_)
  simp only[Bool.false_eq_true,if_false]
  exact wpAny_pure ⟨rfl,rfl,fun u hu=>hall u (List.mem_cons_of_mem _ hu)⟩
 ·rintro⟨r1,r2⟩ s' ⟨hr,rfl,_⟩
  simp only at hr
  subst hr
  exact wpAny_pure h
theorem aZ7{k:List Int}{a:Addr}{Q:Bool->Shared->Prop}(hk:lI prog w s.heap k a)(l:List Value)(hl:∀ v∈l,∃ k' b,v=.ref b/\lI prog w s.heap k' b)(h:Q false s):wpAny (model prog w) A (searchCouldBeSeen (.ref a) l) Q E s:=by
 unfold searchCouldBeSeen
 refine wpAny_bind ?_
 refine wpAny_forIn_list _ (fun eE r s'=>r.1=none/\s'=s/\∀ v∈eE,∃ k' b,v=.ref b/\lI prog w s.heap k' b) _ ?_ ?_ _ _ ⟨rfl,rfl,hl⟩
 ·rintro v eE r s' ⟨hr,rfl,hall⟩
  obtain⟨k',b,rfl,hb⟩:=hall v List.mem_cons_self
  have go:∀ u∈eE,∃ k' b,u=Value.ref b/\lI prog w s'.heap k' b:=fun u hu=>hall u (List.mem_cons_of_mem _ hu)
  dsimp only
  split
  ·exact wpAny_pure ⟨rfl,rfl,go⟩
  ·refine wpAny_bind (wpAny_eqIsQuiet_tuple hk ?_)
   simp only[Bool.not_true,Bool.false_eq_true,if_false]
   refine wpAny_bind (wpAny_eqIsQuiet_tuple hb ?_)
   simp only[Bool.not_true,Bool.false_eq_true,if_false]
   refine wpAny_bind (aR4 hk ?_)
   simp only[Bool.false_eq_true,if_false]
   refine wpAny_bind (aR4 hb ?_)
   simp only[Bool.false_eq_true,if_false]
   exact wpAny_pure ⟨rfl,rfl,go⟩
 ·rintro⟨r1,r2⟩ s' ⟨hr,rfl,_⟩
  simp only at hr
  subst hr
  exact wpAny_pure h
end
end PySem
namespace PySem
open Sx
structure jV(prog:Program)(w:World)(h:Heap)(S:Addr)(led:Bool)(N:Addr->Prop)(ks:List (List Int))(o:Obj)(es:Array (Int×Value))(ep:Nat)(t:SetTable):Prop where
 ob:h.get? S=some o
 ex:o.ExactSet
 dt:o.data=.set es ep t
 tk:TOk t (es.toList.map (·.1))
 ful:t.place.size*5 < t.mask*3
 ld:t.led=led
 pl:t.plain=true
 len:ks.length=es.size
 it:∀ (i:Nat) e,es[i]? = some e->∃ k a,ks[i]? = some k/\e=(tupleKeyHash (intKind prog w) k,.ref a)/\lI prog w h k a/\N a
 nd:ks.Nodup
section
variable{prog:Program}{w:World}{A:Around}{E:Value->Shared->Prop}{s:Shared}{S:Addr}{led:Bool}{N:Addr->Prop}{ks:List (List Int)}{o:Obj}{es:Array (Int×Value)}{ep:Nat}{t:SetTable}
theorem _root_.Sx.TOk.fits{hs:List Int}(T:TOk t hs){n:Nat}(hn:hs.length=n):t.fits n=true:=by
 have h1:=T.len
 have h2:=T.fit
 simp only[SetTable.fits,SetTable.fill,Bool.and_eq_true,beq_iff_eq,decide_eq_true_eq,T.dm]
 exact⟨by omega,by simpa using h2⟩
theorem jV.fits(X:jV prog w s.heap S led N ks o es ep t):t.fits es.size=true:=X.tk.fits (by simp)
theorem jV.state(X:jV prog w s.heap S led N ks o es ep t){Q:(Array (Int×Value)×Nat×SetTable)->Shared->Prop}(h:Q (es,ep,t) s):wpAny (model prog w) A (setState S) Q E s:=
 wpAny_setState_of X.ob X.dt X.fits h
theorem jV.even(X:jV prog w s.heap S led N ks o es ep t):t.gaveWay=false:=by
 obtain⟨k,hk⟩:=X.tk.pw
 have h7:=X.tk.m7
 unfold SetTable.gaveWay
 have:t.mask % 2=1:=by
  cases k with
  | zero=>omega
  | succ k=>rw[Nat.pow_succ]at hk;omega
 rw[this];rfl
theorem kJ(X:jV prog w s.heap S led N ks o es ep t){k:List Int}{a:Addr}(hu:A.units < cLine)(hk:lI prog w s.heap k a){M:Nat}(hM:¬ Occ t (wk t.mask (tupleKeyHash (intKind prog w) k) M).j)(hb:∀ m,m < M->Occ t (wk t.mask (tupleKeyHash (intKind prog w) k) m).j)
  (hMB:M < 10*SetTable.turns t.mask) :
  ∀ (fuel n:Nat) (stand:Option SetTable.Probe) (Q:SetFound->Shared->Prop),stand.getD (t.probeStart (tupleKeyHash (intKind prog w) k))=wk t.mask (tupleKeyHash (intKind prog w) k) n->n<=M->M-n < fuel ->
    (∀ i:Nat,ks[i]? = some k->∃ m j,n<=m/\t.place[i]? = some j/\(wk t.mask (tupleKeyHash (intKind prog w) k) m).j=j/\m < M) ->
    (k∈ks->Q (.there none) s)->(k∉ks->Q (.free (wk t.mask (tupleKeyHash (intKind prog w) k) M).j false) s)->wpAny (model prog w) A (setSearchFrom S (.ref a) (tupleKeyHash (intKind prog w) k) true fuel stand) Q E s
 | 0,n,stand,Q,_,_,hf,_,_,_=>by omega
 | fuel+1,n,stand,Q,hst,hn,hf,hin,q1,q2=>by
   unfold setSearchFrom
   refine wpAny_bind (X.state ?_)
   dsimp only
   rw[X.even,if_neg Bool.false_ne_true,hst]
   have hg:=zM X.tk (h:=tupleKeyHash (intKind prog w) k) (hashAt:=fun i=>(es[i]?.map (·.1)).getD 0) hM hb (10*SetTable.turns t.mask) n hn (by omega)
   have hat:∀ (i:Nat) e,es[i]? = some e->((es[i]?.map (·.1)).getD 0)=e.1:=fun i e he=>by rw[he];rfl
   split
   ·rename_i met hmet
    rcases hg with⟨m,i,a1,a2,a3,a4,a5,a6⟩ | ⟨a1,a2⟩
    ·have e:met=.candidate (wk t.mask (tupleKeyHash (intKind prog w) k) m).j i (wk t.mask (tupleKeyHash (intKind prog w) k) (m+1)):=Option.some.inj (hmet.symm.trans a6)
     subst e
     dsimp only
     have hi:i < es.size:=by
      have h1:=(Array.getElem?_eq_some_iff.mp a3).1
      have h2:=X.tk.len
      simp at h2;omega
     have ei:es[i]? = some es[i]:=Array.getElem?_eq_getElem hi
     obtain⟨k',b,ek,ee,hb',_⟩:=X.it i _ ei
     have seen:∀ v∈((es.filter (fun x=>x.1==tupleKeyHash (intKind prog w) k)).toList.map (·.2)),∃ k' b,v=Value.ref b/\lI prog w s.heap k' b:=fun v hv=>by
      obtain⟨e,he,rfl⟩:=List.mem_map.mp hv
      have he':e∈es:=by
       rw[Array.mem_toList_iff]at he
       exact(Array.mem_filter.mp he).1
      obtain⟨j,hj,ej⟩:=Array.getElem_of_mem he'
      obtain⟨k2,b2,_,e2,h2,_⟩:=X.it j e (by rw[Array.getElem?_eq_getElem hj,ej])
      exact⟨k2,b2,by rw[e2],h2⟩
     by_cases hl:t.led=true
     ·rw[hl]
      simp only[Bool.not_true,Bool.false_eq_true,if_false]
      rw[ei,ee]
      dsimp only
      refine wpAny_bind (wpAny_holding (wpAny_eqBool_tuple hu hb' hk ?_))
      refine wpAny_bind (X.state ?_)
      dsimp only
      by_cases hkk:k'=k
      ·subst hkk
       rw[decide_eq_true rfl]
       simp only[Bool.and_self,if_true]
       exact wpAny_pure (q1 (List.mem_of_getElem? ek))
      ·rw[decide_eq_false hkk]
       simp only[Bool.and_false,Bool.false_eq_true,if_false]
       have hsm:t.sameMemory t.moves t.mask=some true:=by unfold SetTable.sameMemory;simp
       rw[hsm]
       dsimp only
       rw[if_pos rfl,oG X.tk.ri a3]
       dsimp only
       rw[ei,ee]
       dsimp only
       refine wpAny_bind (wpAny_isSame_ref_self ?_)
       simp only[if_true]
       refine wpAny_bind (wpAny_pure ?_)
       dsimp only
       refine kJ X hu hk hM hb hMB fuel (m+1) (some _) Q rfl (by omega) (by omega) (fun i2 e2=>?_) q1 q2
       obtain⟨m2,j2,b1,b2,b3,b4⟩:=hin i2 e2
       refine⟨m2,j2,?_,b2,b3,b4⟩
       -- it lies behind the one that was met
       refine Nat.lt_of_not_le fun hle=>?_
       have hi2:i2 < es.size:=by rw[← X.len];exact(List.getElem?_eq_some_iff.mp e2).1
       have e3:es[i2]? = some es[i2]:=Array.getElem?_eq_getElem hi2
       obtain⟨k3,b5,e4,e5,_⟩:=X.it i2 _ e3
       rw[e2]at e4
       cases e4
       by_cases z:m2=m
       ·subst z
        have:i2=i:=by rw[← eL X.tk.ri b2,← eL X.tk.ri a3,b3]
        subst this
        rw[ek]at e2
        exact hkk (Option.some.inj e2)
       ·refine a5 m2 i2 b1 (by omega) (by rw[b2,b3]) ?_
        show(es[i2]?.map (·.1)).getD 0=_
        rw[hat i2 _ e3,e5]
     ·have hl':t.led=false:=by simpa using hl
      rw[hl']
      simp only[Bool.not_false,if_true]
      refine wpAny_bind (aZ7 hk _ seen ?_)
      simp only[Bool.false_eq_true,if_false]
      rw[ei,ee]
      dsimp only
      refine wpAny_bind (wpAny_holding (wpAny_eqBool_tuple hu hb' hk ?_))
      refine wpAny_bind (X.state ?_)
      dsimp only
      by_cases hkk:k'=k
      ·subst hkk
       rw[decide_eq_true rfl]
       simp only[Bool.and_self,if_true]
       exact wpAny_pure (q1 (List.mem_of_getElem? ek))
      ·rw[decide_eq_false hkk]
       simp only[Bool.and_false,Bool.false_eq_true,if_false]
       have hsm:t.sameMemory t.moves t.mask=some true:=by unfold SetTable.sameMemory;simp
       rw[hsm]
       dsimp only
       rw[if_pos rfl,oG X.tk.ri a3]
       dsimp only
       rw[ei,ee]
       dsimp only
       refine wpAny_bind (wpAny_isSame_ref_self ?_)
       simp only[if_true]
       refine wpAny_bind (wpAny_pure ?_)
       dsimp only
       refine kJ X hu hk hM hb hMB fuel (m+1) (some _) Q rfl (by omega) (by omega) (fun i2 e2=>?_) q1 q2
       obtain⟨m2,j2,b1,b2,b3,b4⟩:=hin i2 e2
       refine⟨m2,j2,?_,b2,b3,b4⟩
       -- it lies behind the one that was met
       refine Nat.lt_of_not_le fun hle=>?_
       have hi2:i2 < es.size:=by rw[← X.len];exact(List.getElem?_eq_some_iff.mp e2).1
       have e3:es[i2]? = some es[i2]:=Array.getElem?_eq_getElem hi2
       obtain⟨k3,b5,e4,e5,_⟩:=X.it i2 _ e3
       rw[e2]at e4
       cases e4
       by_cases z:m2=m
       ·subst z
        have:i2=i:=by rw[← eL X.tk.ri b2,← eL X.tk.ri a3,b3]
        subst this
        rw[ek]at e2
        exact hkk (Option.some.inj e2)
       ·refine a5 m2 i2 b1 (by omega) (by rw[b2,b3]) ?_
        show(es[i2]?.map (·.1)).getD 0=_
        rw[hat i2 _ e3,e5]
    ·have e:met=.empty (wk t.mask (tupleKeyHash (intKind prog w) k) M).j none:=Option.some.inj (hmet.symm.trans a2)
     subst e
     dsimp only
     refine wpAny_pure (q2 fun hm=>?_)
     obtain⟨i,hi,e⟩:=List.getElem_of_mem hm
     have ek:ks[i]? = some k:=by rw[List.getElem?_eq_getElem hi,e]
     obtain⟨m,j,b1,b2,b3,b4⟩:=hin i ek
     have hi':i < es.size:=by rw[← X.len];exact hi
     have e3:es[i]? = some es[i]:=Array.getElem?_eq_getElem hi'
     obtain⟨k3,b5,e4,e5,_⟩:=X.it i _ e3
     rw[ek]at e4
     cases e4
     refine a1 m i b1 b4 (by rw[b2,b3]) ?_
     show(es[i]?.map (·.1)).getD 0=_
     rw[hat i _ e3,e5]
   ·rename_i hno
    exfalso
    rcases hg with⟨m,i,_,_,_,_,_,a6⟩ | ⟨_,a2⟩
    ·exact hno _ a6
    ·exact hno _ a2
end
end PySem
namespace Sx
open PySem PySem.SetTable
theorem lD(n:Nat):∀ (fuel k:Nat),n < 2 ^ k*2 ^ fuel->3<=k->∃ k',sizeAbove.go n fuel (2 ^ k)=2 ^ k'/\k<=k'/\n < 2 ^ k'/\(2 ^ k'=2 ^ k\/2 ^ k'<=2*n)
 | 0,k,h,hk=>⟨k,rfl,Nat.le_refl _,by simpa using h,.inl rfl⟩
 | fuel+1,k,h,hk=>by
   unfold sizeAbove.go
   split
   ·rename_i hle
    have e:2 ^ k*2=2 ^ (k+1):=(Nat.pow_succ ..).symm
    rw[e]
    obtain⟨k',a,b,c,d⟩:=lD n fuel (k+1) (by rw[Nat.pow_succ,Nat.mul_assoc,Nat.mul_comm 2 (2 ^ fuel),← Nat.pow_succ];exact h) (by omega)
    refine⟨k',a,by omega,c,.inr ?_⟩
    rcases d with d | d
    ·rw[d,Nat.pow_succ];omega
    ·exact d
   ·rename_i hgt
    exact⟨k,rfl,Nat.le_refl _,by omega,.inl rfl⟩
theorem iT(n:Nat)(h:n < 2 ^ 60):∃ k,sizeAbove n=2 ^ k/\3<=k/\n < 2 ^ k/\2 ^ k<=8+2*n:=by
 obtain⟨k,a,b,c,d⟩:=lD n 64 3 (Nat.lt_of_lt_of_le h (by decide)) (Nat.le_refl _)
 exact⟨k,a,b,c,by omega⟩
noncomputable def rel{α:Type}(l:List α)(od:List Nat):List α:=od.filterMap (l[·]?)
theorem zP{α:Type}{l:List α}:∀ {od:List Nat},(∀ j∈od,j < l.length)->∀ i:Nat,(rel l od)[i]? = (od[i]?).bind (l[·]?)
 | [],_,i=>by simp[rel]
 | j::od,h,i=>by
   have hj:=h j List.mem_cons_self
   have e:rel l (j::od)=l[j]::rel l od:=by
    unfold rel
    rw[List.filterMap_cons,List.getElem?_eq_getElem hj]
   rw[e]
   cases i with
   | zero=>simp[List.getElem?_eq_getElem hj]
   | succ i=>rw[List.getElem?_cons_succ,List.getElem?_cons_succ];exact zP (fun x hx=>h x (List.mem_cons_of_mem _ hx)) i
theorem qC{α:Type}{l:List α}{od:List Nat}(h:∀ j∈od,j < l.length):(rel l od).length=od.length:=by
 induction od with
 | nil=>rfl
 | cons j od ih=>
   have hj:=h j List.mem_cons_self
   have e:rel l (j::od)=l[j]::rel l od:=by
    unfold rel
    rw[List.filterMap_cons,List.getElem?_eq_getElem hj]
   rw[e,List.length_cons,List.length_cons,ih fun x hx=>h x (List.mem_cons_of_mem _ hx)]
theorem aD9{α:Type}{l:List α}{od:List Nat}(h:od.Perm (List.range l.length)):(rel l od).Perm l:=by
 have h1:(rel l od).Perm (rel l (List.range l.length)):=h.filterMap _
 have h2:rel l (List.range l.length)=l:=by unfold rel;exact PySem.List.filterMap_getElem?_range_length l
 rw[h2]at h1
 exact h1
theorem oM{α:Type}(l:List α)(p:Nat)(x:α):(xG l p x).Perm (x::l):=by
 unfold xG
 have:=List.perm_middle (a:=x) (l₁:=l.take p) (l₂:=l.drop p)
 rwa[List.take_append_drop]at this
end Sx
namespace PySem
open Sx
section
variable{prog:Program}{w:World}{A:Around}{E:Value->Shared->Prop}{s:Shared}{S:Addr}{led:Bool}{N:Addr->Prop}{ks:List (List Int)}{o:Obj}{es:Array (Int×Value)}{ep:Nat}{t:SetTable}
noncomputable def xL(prog:Program)(w:World)(h:Heap)(S:Addr)(led:Bool)(N:Addr->Prop)(ks:List (List Int)):Prop:=∃ o es ep t,jV prog w h S led N ks o es ep t
theorem jV.store(X:jV prog w s.heap S led N ks o es ep t){es':Array (Int×Value)}{t':SetTable}{ks':List (List Int)}(T:TOk t' (es'.toList.map (·.1)))(hl:t'.led=t.led)(hp:t'.plain=true)(hn:ks'.length=es'.size)(hnd:ks'.Nodup)
  (hi:∀ (i:Nat) e,es'[i]? = some e->∃ k a,ks'[i]? = some k/\e=(tupleKeyHash (intKind prog w) k,.ref a)/\lI prog w s.heap k a/\N a) (hf:t'.place.size*5 < t'.mask*3) :
  jV prog w (s.heap.update S (Obj.putSet es' t')) S led N ks' {o with data:=.set es' (ep+1) t'} es' (ep+1) t':=by
 have hg:(s.heap.update S (Obj.putSet es' t')).get? S=some {o with data:=.set es' (ep+1) t'}:=by
  have:=Heap.get?_update_self (Obj.putSet es' t') X.ob (by rw[putSet_of es' t' X.dt];rfl)
  rw[putSet_of es' t' X.dt]at this;exact this
 refine⟨hg,X.ex,rfl,T,hf,hl.trans X.ld,hp,hn,fun i e he=>?_,hnd⟩
 obtain⟨k,a,h1,h2,h3,h4⟩:=hi i e he
 refine⟨k,a,h1,h2,h3.at (fun ob hob=>?_),h4⟩
 have hne:a≠S:=fun z=>by
  subst z
  obtain⟨o2,items,n,ho2,_,hd2,_⟩:=h3
  rw[X.ob]at ho2
  cases ho2
  rw[X.dt]at hd2
  cases hd2
 rw[(Heap.SameBut.update s.heap S (Obj.putSet es' t')).2 a hne];exact hob
theorem bK3(X:jV prog w s.heap S led N ks o es ep t){k:List Int}{a:Addr}{Q:Bool->Shared->Prop}(hu:A.units < cLine)(hk:lI prog w s.heap k a)(haN:N a)(hn:ks.length < 4000)
  (q1:k∈ks->∀ tk,Q false {s with toks:=tk}) (q2:k∉ks->∀ h' tk ks',xL prog w h' S led N ks'->ks'.Perm (k::ks)->(∀ c ob,c≠S->s.heap.get? c=some ob->h'.get? c=some ob)->Q true {s with heap:=h',toks:=tk}) :
  wpAny (model prog w) A (setAdd S (.ref a)) Q E s:=by
 obtain⟨M,hMs,hM,hb⟩:=X.tk.stop2 (tupleKeyHash (intKind prog w) k)
 have hsz:t.place.size=es.size:=by have:=X.tk.len;simpa using this
 have hfit:=X.tk.fit
 have hes:es.size < 4000:=by rw[← X.len];exact hn
 unfold setAdd
 refine wpAny_holding (wpAny_bind (wpAny_pyHash_tuple hu hk ?_))
 unfold setAddHashed
 refine wpAny_holding ?_
 generalize hs':s.toks+(k.length+1)=tk0
 have X':jV prog w ({s with toks:=tk0}:Shared).heap S led N ks o es ep t:=X
 have hk':lI prog w ({s with toks:=tk0}:Shared).heap k a:=hk
 unfold setAddHashedIn
 refine wpAny_bind (X'.state ?_)
 dsimp only
 have hbs:byScan (.ref a) es=false:=rfl
 rw[hbs,if_neg Bool.false_ne_true]
 unfold setSearch
 refine wpAny_bind (kJ X' hu hk' hM hb (by show M < 10*(t.mask+15);omega) 100000 0 none _ rfl (Nat.zero_le _) (by omega) (fun i ei=>?_) (fun hm=>wpAny_pure (q1 hm tk0)) fun hm=>?_)
 ·have hi':i < es.size:=by rw[← X.len];exact(List.getElem?_eq_some_iff.mp ei).1
  have e3:es[i]? = some es[i]:=Array.getElem?_eq_getElem hi'
  obtain⟨k3,b5,e4,e5,_⟩:=X.it i _ e3
  rw[ei]at e4
  cases e4
  obtain⟨m,j,c1,c2,c3⟩:=X.tk.rea i (tupleKeyHash (intKind prog w) k) (by rw[List.getElem?_map,Array.getElem?_toList,e3,e5];rfl)
  refine⟨m,j,Nat.zero_le _,c1,c2,Nat.lt_of_not_le fun z=>?_⟩
  by_cases zz:M=m
  ·subst zz;exact hM ⟨i,by rw[c1,c2]⟩
  ·exact hM (c3 M (by omega))
 ·dsimp only
  refine wpAny_bind (X'.state ?_)
  dsimp only
  have hput:=oJ t (wk t.mask (tupleKeyHash (intKind prog w) k) M).j X.tk.dm
  have hf7:=X.tk.m7
  have hful:=X.ful
  have T1:=X.tk.put hM hb (by omega)
  have hple:=(dS X.tk.ri (wk t.mask (tupleKeyHash (intKind prog w) k) M).j).le
  generalize hj:(wk t.mask (tupleKeyHash (intKind prog w) k) M).j=j at hput T1 hple ⊢
  rw[hput]at T1 ⊢
  dsimp only at T1 ⊢
  generalize hp:SetTable.below t.place j=p at T1 hple ⊢
  rw[if_pos X.pl]
  refine wpAny_bind (bK2 hk' ?_)
  rw[if_pos rfl]
  have hpe:p<=es.size:=by omega
  have hpk:p<=ks.length:=by rw[X.len];exact hpe
  have ehs:(SetTable.insertAt es p (tupleKeyHash (intKind prog w) k,Value.ref a)).toList.map (·.1)=xG (es.toList.map (·.1)) p (tupleKeyHash (intKind prog w) k):=by
   rw[SetTable.toList_insertAt]
   unfold xG
   rw[List.map_append,List.map_cons,List.map_take,List.map_drop]
  rw[← ehs]at T1
  have hne:(SetTable.insertAt es p (tupleKeyHash (intKind prog w) k,Value.ref a)).size=es.size+1:=iH es hpe _
  have hpl:(SetTable.insertAt t.place p j).size=es.size+1:=by rw[iH t.place hple,hsz]
  have hit:∀ (i:Nat) e,(SetTable.insertAt es p (tupleKeyHash (intKind prog w) k,Value.ref a))[i]? = some e->∃ k' a',(xG ks p k)[i]? = some k'/\e=(tupleKeyHash (intKind prog w) k',.ref a')/\lI prog w s.heap k' a'/\N a':=fun i e he=>by
   rw[fE _ hpe]at he
   rw[aD6 _ hpk]
   split at he
   ·rw[if_pos (by assumption)];exact X.it i e he
   ·split at he
    ·cases he
     rw[if_neg (by assumption),if_pos (by assumption)]
     exact⟨k,a,rfl,rfl,hk,haN⟩
    ·rw[if_neg (by assumption),if_neg (by assumption)];exact X.it (i-1) e he
  have hnd:(xG ks p k).Nodup:=(oM ks p k).nodup_iff.mpr (List.nodup_cons.mpr ⟨hm,X.nd⟩)
  have hlen:(xG ks p k).length=(SetTable.insertAt es p (tupleKeyHash (intKind prog w) k,Value.ref a)).size:=by rw[oH _ hpk,hne,X.len]
  have hz:es.size+1<=sizeLine:=by rw[sizeLine_eq];omega
  refine wpAny_bind (wpAny_storeSet_of (s:={s with toks:=tk0}) X.ob X.dt ?_ (by rw[hne];exact hz))
  have kept:∀ (e2:Array (Int×Value)) (t2:SetTable) c ob,c≠S->s.heap.get? c=some ob->(s.heap.update S (Obj.putSet e2 t2)).get? c=some ob:=fun e2 t2 c ob hc e=>by
   rw[(Heap.SameBut.update s.heap S (Obj.putSet e2 t2)).2 c hc];exact e
  by_cases htf:({t with place:=SetTable.insertAt t.place p j}:SetTable).tooFull=true
  ·rw[htf]
   simp only[Bool.not_false,Bool.and_self,if_true]
   refine wpAny_bind ?_
   unfold setRelay
   -- the table is full for a moment: what is known of it still
   have hg:(s.heap.update S (Obj.putSet (SetTable.insertAt es p (tupleKeyHash (intKind prog w) k,Value.ref a)) {t with place:=SetTable.insertAt t.place p j})).get? S=some {o with data:=.set (SetTable.insertAt es p (tupleKeyHash (intKind prog w) k,Value.ref a)) (ep+1) {t with place:=SetTable.insertAt t.place p j}}:=by
    have:=Heap.get?_update_self (Obj.putSet (SetTable.insertAt es p (tupleKeyHash (intKind prog w) k,Value.ref a)) {t with place:=SetTable.insertAt t.place p j}) X.ob (by rw[putSet_of _ _ X.dt];rfl)
    rw[putSet_of _ _ X.dt]at this;exact this
   refine wpAny_bind (wpAny_setState_of (s:={s with heap:=s.heap.update S (Obj.putSet (SetTable.insertAt es p (tupleKeyHash (intKind prog w) k,Value.ref a)) {t with place:=SetTable.insertAt t.place p j}),toks:=tk0}) hg rfl (T1.fits (by simp)) ?_)
   dsimp only
   have hgr:SetTable.grown (es.size+1)=(es.size+1)*4:=by unfold SetTable.grown;rw[if_neg (by omega)]
   obtain⟨kk,sa1,sa2,sa3,sa4⟩:=iT ((es.size+1)*4) (by omega)
   rw[hgr,sa1]
   rw[if_neg (by rw[sizeLine_eq];omega)]
   have hpos:1<=2 ^ kk:=Nat.one_le_two_pow
   have h8:8<=2 ^ kk:=by
    have:2 ^ 3<=2 ^ kk:=Nat.pow_le_pow_right (by decide) sa2
    simpa using this
   generalize hE:SetTable.insertAt es p (tupleKeyHash (intKind prog w) k,Value.ref a)=E2 at *
   obtain⟨t3,od,l1,l2,l3,l4,l5,l6,l7⟩:=xI (mask:=2 ^ kk-1) (k:=kk) (finger:=t.finger) (moves:=({t with place:=SetTable.insertAt t.place p j}:SetTable).movedTo (2 ^ kk-1)) (led:=t.led) (plain:=t.plain) (hashes:=E2.map (·.1)) (by omega) (by omega) (by rw[Array.size_map,hne];omega)
   have hrl:({t with place:=SetTable.insertAt t.place p j}:SetTable).relaid (E2.map (·.1)) ((es.size+1)*4)=some (t3,od):=by
    unfold SetTable.relaid
    rw[sa1];exact l1
   rw[Array.size_map]at l3 l5
   have hod:∀ x∈od.toList,x < E2.toList.length:=fun x hx=>by
    have:=l3.mem_iff.mp hx
    rw[List.mem_range]at this
    rw[Array.length_toList];exact this
   have e3:(od.filterMap (E2[·]?)).toList=rel E2.toList od.toList:=by
    rw[Array.toList_filterMap]
    unfold rel
    congr 1
    funext x
    rw[Array.getElem?_toList]
   have hodl:od.toList.length=E2.size:=by have:=l3.length_eq;simpa using this
   have hs3:(od.filterMap (E2[·]?)).size=E2.size:=by
    rw[← Array.length_toList,e3,qC hod,hodl]
   rw[hrl]
   refine wpAny_bind ?_
   show wpAny (model prog w) A (ite (((od.filterMap (E2[·]?)).size != E2.size)=true) _ _) _ _ _
   dsimp only
   rw[hs3]
   simp only[bne_self_eq_false,Bool.false_eq_true,if_false]
   refine wpAny_pure ?_
   dsimp only
   refine wpAny_storeSet_of (s:={s with heap:=s.heap.update S (Obj.putSet E2 {t with place:=SetTable.insertAt t.place p j}),toks:=tk0}) hg rfl ?_ (by rw[hs3,hne];exact hz)
   refine wpAny_pure ?_
   -- as if it were stored at once
   have T3:TOk t3 ((od.filterMap (E2[·]?)).toList.map (·.1)):=by
    have e4:(od.filterMap (E2[·]?)).toList.map (·.1)=od.toList.filterMap ((E2.map (·.1))[·]?):=by
     rw[Array.toList_filterMap,List.map_filterMap]
     congr 1
     funext x
     rw[Array.getElem?_map]
    rw[e4];exact l2
   have hkl:∀ x∈od.toList,x < (xG ks p k).length:=fun x hx=>by rw[hlen,← Array.length_toList];exact hod x hx
   refine q2 hm _ tk0 (rel (xG ks p k) od.toList) ⟨{o with data:=.set (od.filterMap (E2[·]?)) (ep+1+1) t3},od.filterMap (E2[·]?),ep+1+1,t3,?_,X.ex,rfl,T3,?_,l6.trans X.ld,l7.trans X.pl,?_,?_,?_⟩ ?_ ?_
   ·have:=Heap.get?_update_self (Obj.putSet (od.filterMap (E2[·]?)) t3) hg (by rw[putSet_of _ _ rfl];rfl)
    rw[putSet_of _ _ rfl]at this;exact this
   ·rw[l4,l5,hne];omega
   ·rw[qC hkl,hodl,hs3]
   ·intro i e he
    rw[← Array.getElem?_toList,e3,zP hod]at he
    rw[zP hkl]
    cases hx:od.toList[i]? with
    | none=>rw[hx]at he;cases he
    | some x=>
      rw[hx]at he
      have he':E2[x]? = some e:=by rw[← Array.getElem?_toList];exact he
      obtain⟨k',a',h1,h2,h3,h4⟩:=hit x e he'
      refine⟨k',a',h1,h2,h3.at (fun ob hob=>?_),h4⟩
      have hne':a'≠S:=fun z=>by
       subst z
       obtain⟨o2,items,n,ho2,_,hd2,_⟩:=h3
       rw[X.ob]at ho2
       cases ho2
       rw[X.dt]at hd2
       cases hd2
      rw[(Heap.SameBut.update _ S (Obj.putSet (od.filterMap (E2[·]?)) t3)).2 a' hne']
      exact kept _ _ a' ob hne' hob
   ·exact(aD9 (by rw[hlen];exact l3)).nodup_iff.mpr hnd
   ·exact(aD9 (by rw[hlen];exact l3)).trans (oM ks p k)
   ·intro c ob hc e
    rw[(Heap.SameBut.update _ S (Obj.putSet (od.filterMap (E2[·]?)) t3)).2 c hc]
    exact kept _ _ c ob hc e
  ·have htf':({t with place:=SetTable.insertAt t.place p j}:SetTable).tooFull=false:=by simpa using htf
   rw[htf']
   simp only[Bool.and_false,Bool.false_eq_true,if_false]
   refine wpAny_pure (q2 hm _ tk0 (xG ks p k) ⟨_,_,_,_,X.store T1 rfl X.pl hlen hnd hit ?_⟩ (oM ks p k) (kept _ _))
   unfold SetTable.tooFull SetTable.fill at htf'
   simp only[X.tk.dm,decide_eq_false_iff_not,Nat.not_le]at htf'
   simpa using htf'
end
end PySem
namespace PySem
open Sx
section
variable{prog:Program}{w:World}{A:Around}{S I:Addr}{led:Bool}{N:Addr->Prop}
theorem xL.stay{h h':Heap}{ks:List (List Int)}(X:xL prog w h S led N ks)(hS:h'.get? S=h.get? S)(hk:∀ c ob,N c->h.get? c=some ob->h'.get? c=some ob):xL prog w h' S led N ks:=by
 obtain⟨o,es,ep,t,Y⟩:=X
 refine⟨o,es,ep,t,hS.trans Y.ob,Y.ex,Y.dt,Y.tk,Y.ful,Y.ld,Y.pl,Y.len,fun i e he=>?_,Y.nd⟩
 obtain⟨k,a,h1,h2,h3,h4⟩:=Y.it i e he
 exact⟨k,a,h1,h2,h3.at (fun ob hob=>hk a ob h4 hob),h4⟩
noncomputable def gM(prog:Program)(w:World)(h:Heap)(N:Addr->Prop)(ks:List (List Int))(items:Array Value):Prop:=ks.length=items.size/\∀ (i:Nat) v,items[i]? = some v->∃ k a,ks[i]? = some k/\v=.ref a/\lI prog w h k a/\N a
theorem gM.stay{h h':Heap}{ks:List (List Int)}{items:Array Value}(X:gM prog w h N ks items)(hk:∀ c ob,N c->h.get? c=some ob->h'.get? c=some ob):gM prog w h' N ks items:=by
 refine⟨X.1,fun i v e=>?_⟩
 obtain⟨k,a,h1,h2,h3,h4⟩:=X.2 i v e
 exact⟨k,a,h1,h2,h3.at (fun ob hob=>hk a ob h4 hob),h4⟩
theorem aR5{items:Array Value}{ks:List (List Int)}(hu:A.units < cLine)(hSN:¬ N S)(hIN:¬ N I)(hSI:S≠I)(hb:ks.length < 4000) :
  Fill prog w A S I items.size (fun i v=>items[i]? = some v) (fun i h=>gM prog w h N ks items/\∃ us,xL prog w h S led N us/\us.length<=i/\∀ x,x∈us↔x∈ks.take i) where
 put:=fun i v s Q E hi hv ⟨TA,us,X,hl,hm⟩ q=>by
  obtain⟨k,a,ek,rfl,tk,ha⟩:=TA.2 i v hv
  have hik:i < ks.length:=by rw[TA.1];exact hi
  have et:ks.take (i+1)=ks.take i++[k]:=by rw[List.take_add_one,ek];rfl
  have X0:=X
  obtain⟨o,es,ep,t,Y⟩:=X
  refine bK3 Y hu tk ha (by omega) (fun hin tk'=>?_) fun hin h' tk' us' X' hp hk=>?_
  ·refine q _ s.heap tk' ⟨TA,us,X0,by omega,fun x=>?_⟩ fun c ob _ e=>e
   rw[et,List.mem_append,List.mem_singleton,hm x]
   refine⟨.inl,fun h=>?_⟩
   rcases h with h | rfl
   ·exact h
   ·exact(hm _).mp hin
  ·refine q _ h' tk' ⟨TA.stay fun c ob hc e=>hk c ob (fun z=>hSN (z ▸ hc)) e,us',X',by have:=hp.length_eq;simp at this;omega,fun x=>?_⟩ hk
   rw[hp.mem_iff,List.mem_cons,et,List.mem_append,List.mem_singleton,hm x]
   exact or_comm
 stay:=fun i h h' ⟨TA,us,X,hl,hm⟩ k=>by
  have kN:∀ c ob,N c->h.get? c=some ob->h'.get? c=some ob:=fun c ob hc e=>k c ob (fun z=>hIN (z ▸ hc)) e
  refine⟨TA.stay kN,us,X.stay ?_ kN,hl,hm⟩
  obtain⟨o,es,ep,t,Y⟩:=X
  rw[k S o hSI Y.ob,Y.ob]
end
end PySem
namespace PySem
open Sx
theorem aR6:Manifest.owners.lookup (String.ofList (['r','o','t','a','r','e','t','i','_','t','e','s']:List Char).reverse)=some Manifest.sig_set_iterator:=by kernel_rfl
theorem dM:Slot "set_iterator" "__next__" "set_iterator.__next__":=.of (owner:="set_iterator") (n:="__next__") (by rw[typeLookup_type,builtinLookup_eq_fast];kernel_rfl) (by decide +kernel) (by decide +kernel) (by decide +kernel) (.inl (by decide +kernel)) (by rw[isSubtype_type];kernel_rfl)
theorem jO:entryFor table "set_iterator.__next__"=some Builtin.«set_iterator.__next__»:=entryFor_of_tree (by kernel_rfl)
theorem lR(a:Value):argsOk "set_iterator.__next__" ⟨[a],[]⟩:=by
 unfold argsOk
 rw[signature?_of (id:="set_iterator.__next__") (n:=['_','_','t','x','e','n','_','_']) (o:=['r','o','t','a','r','e','t','i','_','t','e','s']) (by kernel_rfl) aR6]
 kernel_rfl
theorem iU:entryFor table "set.__iter__"=some Builtin.«frozenset.__iter__»:=entryFor_alias (id':="frozenset.__iter__") (by kernel_rfl) rfl (by decide +kernel) (by kernel_rfl)
theorem zQ{α:Type}:∀ (l:List α) (i:Nat) (h:i < l.length),(l[i]::l.eraseIdx i).Perm l
 | [],i,h=>absurd h (Nat.not_lt_zero i)
 | a::l,0,_=>.refl _
 | a::l,i+1,h=>(List.Perm.swap a _ _).trans (.cons a (zQ l i (Nat.lt_of_succ_lt_succ h)))
theorem xM{α:Type}(next:Nat->Nat):∀ (fuel k:Nat) (lG:List α) (out:Array α),lG.length=fuel->(pickOrder.go next fuel k lG out).toList.Perm (out.toList++lG)
 | 0,k,lG,out,h=>by
   have:lG=[]:=List.eq_nil_of_length_eq_zero h
   subst this
   rw[List.append_nil];exact .refl _
 | fuel+1,k,lG,out,h=>by
   have hl:next k % lG.length < lG.length:=Nat.mod_lt _ (by omega)
   unfold pickOrder.go
   rw[List.getElem?_eq_getElem hl]
   dsimp only
   have ih:=xM next fuel (k+1) (lG.eraseIdx (next k % lG.length)) (out.push lG[next k % lG.length]) (by rw[List.length_eraseIdx_of_lt hl];omega)
   refine ih.trans ?_
   rw[Array.toList_push,List.append_assoc]
   exact List.Perm.append_left _ (zQ lG _ hl)
theorem pH{α:Type}(next:Nat->Nat)(xs:Array α):(pickOrder next xs).toList.Perm xs.toList:=by
 have:=xM next xs.size 0 xs.toList #[] (by simp)
 simpa[pickOrder]using this
noncomputable abbrev kK(slot i n ep:Nat)(S:Addr):Obj:={cls:=.type "set_iterator",data:=.fields #[.int slot 0,.int i 0,.ref S,.int n 0,.int ep 0]}
section
variable{prog:Program}{w:World}{A:Around}{E:Value->Shared->Prop}{s:Shared}{S I:Addr}{N:Addr->Prop}{ks:List (List Int)}{o:Obj}{es:Array (Int×Value)}{ep:Nat}{t:SetTable}
noncomputable def aP(w:World)(S:Addr)(ep:Nat)(es:Array (Int×Value)):Array (Int×Value):=if w.params.followText "set-order"=true then pickOrder (w.params.setOrder S ep) es else es
theorem gC(es:Array (Int×Value)):(aP w S ep es).toList.Perm es.toList:=by
 unfold aP
 split
 ·exact pH _ es
 ·exact .refl _
theorem aR7(X:jV prog w s.heap S (cF w) N ks o es ep t){Q:Value->Shared->Prop}(q:Q (.ref s.heap.objs.size) {s with heap:=s.heap.push (kK 0 0 es.size ep S)}):wpAny (model prog w) A (pyIter (.ref S)) Q E s:=by
 have hT:s.TypeIs (.ref S) "set":=⟨o,X.ob,X.ex.1⟩
 refine wpAny_pyIter_slot hT F.slot_set_iter (wpAny_call_entry F.slot_set_iter hT iU ?_ (F.args_set_iter_1 _))
 show wpAny _ _ (Builtin.Frozenset.sizeOf S >>= _) _ _ s
 unfold Builtin.Frozenset.sizeOf
 refine wpAny_bind (wpAny_bind (wpAny_setEntries_of X.ob X.dt X.fits (wpAny_pure ?_)))
 unfold setDrawn
 refine wpAny_bind (wpAny_bind (X.state ?_))
 unfold setsByText
 refine wpAny_bind (wpAny_bind (wpAny_askSetting (wpAny_pure ?_)))
 refine wpAny_pure ?_
 have hd:(!t.plain&&decide (es.size > 1))=false:=by rw[X.pl];rfl
 dsimp only
 rw[if_neg (fun h=>?_)]
 ·refine wpAny_bind (wpAny_pure ?_)
  refine wpAny_bind (wpAny_setEpoch_of X.ob X.dt X.fits ?_)
  unfold newFields
  refine wpAny_bind (wpAny_newObj_type ?_)
  exact wpAny_pure ⟨_,rfl,"set_iterator",_,⟨_,Heap.get?_push_size _ rfl,rfl⟩,dM.lookup,q⟩
 ·rw[Bool.and_eq_true]at h
  exact Bool.noConfusion (hd.symm.trans h.2)
noncomputable def pI(w:World)(h:Heap)(I S:Addr)(es:Array (Int×Value))(ep:Nat)(t:SetTable)(i:Nat):Prop:=
 ∃ slot,h.get? I=some (kK slot i es.size ep S)/\(w.params.followText "set-order"=false->SetTable.below t.place slot=i)
theorem aR8(X:jV prog w s.heap S (cF w) N ks o es ep t){i slot:Nat}(hsl:w.params.followText "set-order"=false->SetTable.below t.place slot=i){Q:Option (Value×Nat)->Shared->Prop}
  (q1:∀ e next,(aP w S ep es)[i]? = some e->(w.params.followText "set-order"=false->SetTable.below t.place next=i+1)->Q (some (e.2,next)) s) (q2:(aP w S ep es)[i]? = none->Q none s):wpAny (model prog w) A (setNext S slot i ep) Q E s:=by
 unfold setNext
 refine wpAny_bind (X.state ?_)
 unfold setsByText
 refine wpAny_bind (wpAny_bind (wpAny_askSetting (wpAny_pure ?_)))
 dsimp only
 by_cases hb:w.params.followText "set-order"=true
 ·rw[if_pos (show(model prog w).w.params.followText "set-order"=true from hb)]
  simp only[bne_self_eq_false,Bool.false_eq_true,if_false]
  unfold setWalk
  refine wpAny_bind (wpAny_bind (X.state ?_))
  unfold setsByText
  refine wpAny_bind (wpAny_bind (wpAny_askSetting (wpAny_pure ?_)))
  dsimp only
  rw[if_pos (show(model prog w).w.params.followText "set-order"=true from hb)]
  refine wpAny_bind (wpAny_askSetting (wpAny_pure ?_))
  have ew:aP w S ep es=pickOrder (w.params.setOrder S ep) es:=by unfold aP;rw[if_pos hb]
  show wpAny _ _ (pure ((pickOrder (w.params.setOrder S ep) es)[i]?.map fun e=>(e.2,slot))) _ _ _
  refine wpAny_pure ?_
  rw[← ew]
  cases hq:(aP w S ep es)[i]? with
  | none=>exact q2 hq
  | some e=>exact q1 e slot hq fun z=>by rw[hb]at z;cases z
 ·have hb':w.params.followText "set-order"=false:=by simpa using hb
  have hbelow:=hsl hb'
  have ew:aP w S ep es=es:=by unfold aP;rw[if_neg hb]
  have hdr:(!t.plain&&decide (es.size > 1))=false:=by rw[X.pl];rfl
  have hled:t.led=true:=by rw[X.ld];unfold cF;rw[hb'];rfl
  rw[if_neg (show ¬ ((model prog w).w.params.followText "set-order"=true)from hb)]
  refine wpAny_ite_split (fun h=>absurd (hdr.symm.trans h) Bool.false_ne_true) fun _=>?_
  refine wpAny_bind ?_
  have hml:wpAny (model prog w) A (if(!t.led && !es.isEmpty)=true then unsupported "set:maker-not-led" else pure ()) (fun _ s'=>s'=s) E s:=by
   rw[hled];simp only[Bool.not_true,Bool.false_and,Bool.false_eq_true,if_false]
   exact wpAny_pure rfl
  refine wpAny_mono hml (fun _ s' e'=>?_) fun _ _ z=>z
  subst e'
  rw[hbelow]
  rw[ew]at q1 q2
  have hsz:t.place.size=es.size:=by have:=X.tk.len;simpa using this
  cases hq:es[i]? with
  | none=>exact wpAny_pure (q2 hq)
  | some e=>
    have hlt:i < t.place.size:=by rw[hsz];exact(Array.getElem?_eq_some_iff.mp hq).1
    have ep':t.place[i]? = some t.place[i]:=Array.getElem?_eq_getElem hlt
    rw[ep']
    refine wpAny_pure (q1 e _ hq fun _=>?_)
    have c:=dS X.tk.ri (t.place[i]+1)
    have h1:i < SetTable.below t.place (t.place[i]+1):=by
     refine Nat.lt_of_not_le fun z=>?_
     have:=c.hi i _ z ep'
     omega
    have h2:SetTable.below t.place (t.place[i]+1)<=i+1:=by
     refine Nat.le_of_not_lt fun z=>?_
     have hl2:i+1 < t.place.size:=Nat.lt_of_lt_of_le z c.le
     have e2:t.place[i+1]? = some t.place[i+1]:=Array.getElem?_eq_getElem hl2
     have:=c.lo (i+1) _ z e2
     have:=X.tk.ri i (i+1) _ _ (Nat.lt_succ_self _) ep' e2
     omega
    omega
theorem jV.ne(X:jV prog w s.heap S (cF w) N ks o es ep t){slot i n:Nat}(ho:s.heap.get? I=some (kK slot i n ep S)):S≠I:=fun z=>by
 have h1:=X.ob
 rw[z,ho]at h1
 cases h1
 exact absurd X.dt (by simp)
theorem aR9(X:jV prog w s.heap S (cF w) N ks o es ep t){i:Nat}(hi:pI w s.heap I S es ep t i){Q:Option Value->Shared->Prop}{e:Int×Value}(he:(aP w S ep es)[i]? = some e)
  (q:∀ h',pI w h' I S es ep t (i+1)->(∀ b ob,b≠I->s.heap.get? b=some ob->h'.get? b=some ob)->Q (some e.2) {s with heap:=h'}):wpAny (model prog w) A (pyNext (.ref I)) Q E s:=by
 obtain⟨slot,ho,hsl⟩:=hi
 have hT:s.TypeIs (.ref I) "set_iterator":=⟨_,ho,rfl⟩
 unfold pyNext
 refine wpAny_bind (wpAny_attempt (wpAny_callSpecial?_slot (name:=Str.ofString "__next__") hT dM (wpAny_call_entry dM hT jO ?_ (lR _))))
 show wpAny _ _ (fieldsOf (.ref I) >>= _) _ _ s
 unfold fieldsOf
 refine wpAny_bind (wpAny_bind (wpAny_load ho (wpAny_pure ?_)))
 dsimp only
 refine wpAny_bind (wpAny_setEntries_of X.ob X.dt X.fits ?_)
 simp only[bne_self_eq_false,Bool.false_eq_true,if_false,Int.toNat_natCast]
 refine wpAny_bind (aR8 X hsl (fun e' next he' hnx=>?_) fun hn=>?_)
 ·rw[he]at he'
  cases he'
  dsimp only
  refine wpAny_bind (wpAny_setField ho rfl (by simp) ?_)
  have g1:(s.heap.update I (fun ob=>ob.mapFields (·.setIfInBounds 0 (rawInt next)))).get? I=some (kK next i es.size ep S):=by
   rw[Heap.get?_update_self _ ho rfl];simp[Obj.mapFields,rawInt]
  refine wpAny_bind (wpAny_setField (s:={s with heap:=s.heap.update I (fun ob=>ob.mapFields (·.setIfInBounds 0 (rawInt next)))}) g1 rfl (by simp) ?_)
  have g2:((s.heap.update I (fun ob=>ob.mapFields (·.setIfInBounds 0 (rawInt next)))).update I (fun ob=>ob.mapFields (·.setIfInBounds 1 (rawInt ((i:Int)+1))))).get? I=some (kK next (i+1) es.size ep S):=by
   rw[Heap.get?_update_self _ g1 rfl];simp[Obj.mapFields,rawInt]
  refine wpAny_pure ⟨_,rfl,wpAny_pure (q _ ⟨next,g2,hnx⟩ fun b ob hb e2=>?_)⟩
  exact(Heap.get?_update_other _ _ (Ne.symm hb)).trans ((Heap.get?_update_other _ _ (Ne.symm hb)).trans e2)
 ·rw[he]at hn;cases hn
theorem aS0(hh:A.handled=none)(X:jV prog w s.heap S (cF w) N ks o es ep t){i:Nat}(hi:pI w s.heap I S es ep t i){Q:Option Value->Shared->Prop}(he:(aP w S ep es)[i]? = none)
  (q:∀ h',(∀ b ob,b≠I->s.heap.get? b=some ob->h'.get? b=some ob)->Q none {s with heap:=h'}):wpAny (model prog w) A (pyNext (.ref I)) Q E s:=by
 obtain⟨slot,ho,hsl⟩:=hi
 have hT:s.TypeIs (.ref I) "set_iterator":=⟨_,ho,rfl⟩
 unfold pyNext
 refine wpAny_bind (wpAny_attempt (wpAny_callSpecial?_slot (name:=Str.ofString "__next__") hT dM (wpAny_call_entry dM hT jO ?_ (lR _))))
 show wpAny _ _ (fieldsOf (.ref I) >>= _) _ _ s
 unfold fieldsOf
 refine wpAny_bind (wpAny_bind (wpAny_load ho (wpAny_pure ?_)))
 dsimp only
 refine wpAny_bind (wpAny_setEntries_of X.ob X.dt X.fits ?_)
 simp only[bne_self_eq_false,Bool.false_eq_true,if_false,Int.toNat_natCast]
 refine wpAny_bind (aR8 X hsl (fun e' next he' hnx=>?_) fun hn=>?_)
 ·rw[he]at he';cases he'
 ·dsimp only
  refine wpAny_bind (wpAny_setField ho rfl (by simp) ?_)
  show wpAny _ _ (newExc (.type "StopIteration") [] >>= _) _ _ _
  refine wpAny_bind ?_
  simp only[newExc,newTuple]
  refine wpAny_bind (wpAny_newObj_type ?_ (by size_fits))
  refine wpAny_bind (m:=firstArgMember _ _) (wpAny_of_eq (a:=Value.none) rfl ?_)
  refine wpAny_newObj_type ?_ (by size_fits)
  simp only[raiseNew]
  refine wpAny_bind (wpAny_handled ?_)
  rw[show A.in1.handled=none from hh]
  refine wpAny_bind (wpAny_pure (wpAny_throw ?_))
  refine wpAny_bind (wpAny_isInstance (T:="StopIteration") (b:=true) ⟨_,Heap.get?_push_size _ rfl,rfl⟩ isSubtype_stop ?_)
  refine wpAny_pure (q _ fun b ob hb e2=>Heap.get?_push_of_some _ (Heap.get?_push_of_some _ ((Heap.get?_update_other _ _ (Ne.symm hb)).trans e2)))
end
end PySem
namespace PySem
open Sx L2
theorem aJ0:typeLookup (.type "set") "__len__"=pure (some (.builtin "set.__len__")):=by rw[typeLookup_type,builtinLookup_eq_fast];kernel_rfl
section
variable{prog:Program}{w:World}{A:Around}{E:Value->Shared->Prop}{s:Shared}{S I:Addr}{N:Addr->Prop}{ks:List (List Int)}{o:Obj}{es:Array (Int×Value)}{ep:Nat}{t:SetTable}
theorem aE0{Q:Bool->Shared->Prop}(hT:s.TypeIs (.ref S) "set")(h:∀ b,Q b s):wpAny (model prog w) A (Builtin.List.listLengthHint (.ref S)) Q E s:=by
 unfold Builtin.List.listLengthHint
 refine wpAny_bind (wpAny_specialOf hT aJ0 ?_)
 (generalize hid:("set.__len__":String)=id0;(fail_if_success (clear hid id0));wp_delta;rw[show splitId id0=some ("set","__len__")from by subst hid;decide +kernel];subst hid)
 refine wpAny_bind (wpAny_isInstance (b:=true) hT sub_set_self ?_)
 dsimp only
 rw[if_neg (by decide)]
 refine wpAny_ite_split (fun _=>?_) (fun h'=>(h' (by decide +kernel)).elim)
 refine wpAny_bind (wpAny_typeOf hT ?_)
 exact wpAny_pure (h _)
theorem aZ8(hh:A.handled=none){L:Addr}{h0:Heap}(X:jV prog w h0 S (cF w) N ks o es ep t)(hI:h0.objs.size<=I)(hL:h0.objs.size<=L)(hLI:L≠I) :
  LoopJ prog w A I L es.size (fun i acc h=>(∀ b ob,h0.get? b=some ob->h.get? b=some ob)/\pI w h I S es ep t i/\acc.toList=((aP w S ep es).toList.take i).map (·.2)) (fun acc h=>(∀ b ob,h0.get? b=some ob->h.get? b=some ob)/\acc.toList=(aP w S ep es).toList.map (·.2)):=by
 have hwl:(aP w S ep es).toList.length=es.size:=by have:=(gC (w:=w) (S:=S) (ep:=ep) es).length_eq;simpa using this
 have nI:∀ b ob,h0.get? b=some ob->b≠I:=fun b ob e z=>absurd (Heap.lt_size e) (Nat.not_lt.mpr (z ▸ hI))
 have nL:∀ b ob,h0.get? b=some ob->b≠L:=fun b ob e z=>absurd (Heap.lt_size e) (Nat.not_lt.mpr (z ▸ hL))
 have XT:∀ (h:Heap),(∀ b ob,h0.get? b=some ob->h.get? b=some ob)->jV prog w h S (cF w) N ks o es ep t:=fun h hk=>
  ⟨hk _ _ X.ob,X.ex,X.dt,X.tk,X.ful,X.ld,X.pl,X.len,fun i e he=>by
   obtain⟨k,a,h1,h2,h3,h4⟩:=X.it i e he
   exact⟨k,a,h1,h2,h3.at (fun ob hob=>hk a ob hob),h4⟩,X.nd⟩
 refine⟨fun i acc s c Q E hi ⟨hk,hs,ha⟩ hS q=>?_,fun acc s c Q E ⟨hk,hs,ha⟩ hS q=>?_,fun i acc h h' ⟨hk,hs,ha⟩ _ k=>?_⟩
 ·have hlt:i < (aP w S ep es).toList.length:=by omega
  have he:(aP w S ep es)[i]? = some (aP w S ep es).toList[i]:=by rw[← Array.getElem?_toList];exact List.getElem?_eq_getElem hlt
  refine aR9 (XT s.heap hk) hs he fun h' hs' k'=>?_
  have:=q (aP w S ep es).toList[i].2 h' s.toks ⟨fun b ob e=>k' b ob (nI b ob e) (hk b ob e),hs',?_⟩ (k' _ _ hLI hS)
  ·exact this
  ·rw[Array.toList_push,ha,List.take_add_one,List.getElem?_eq_getElem hlt,List.map_append];rfl
 ·refine aS0 hh (XT s.heap hk) hs (by rw[← Array.getElem?_toList];exact List.getElem?_eq_none (by omega)) fun h' k'=>?_
  have:=q h' s.toks ⟨fun b ob e=>k' b ob (nI b ob e) (hk b ob e),by rw[ha,List.take_of_length_le (by omega)]⟩ (k' _ _ hLI hS)
  exact this
 ·obtain⟨slot,h1,h2⟩:=hs
  exact⟨fun b ob e=>k b ob (nL b ob e) (hk b ob e),⟨slot,k I _ (Ne.symm hLI) h1,h2⟩,ha⟩
theorem xN(hh:A.handled=none)(X:jV prog w s.heap S (cF w) N ks o es ep t)(hz:es.size<=sizeLine){Q:List Value->Shared->Prop}
  (q:∀ h' tk,(∀ b ob,s.heap.get? b=some ob->h'.get? b=some ob)->s.heap.objs.size < h'.objs.size->Q ((aP w S ep es).toList.map (·.2)) {s with heap:=h',toks:=tk}):wpAny (model prog w) A (collect (.ref S)) Q E s:=by
 have hSlt:S < s.heap.objs.size:=Heap.lt_size X.ob
 have key:∀ R:Result->Shared->Prop,(∀ h' tk acc c,(∀ b ob,s.heap.get? b=some ob->h'.get? b=some ob)->acc.toList=(aP w S ep es).toList.map (·.2)->h'.get? s.heap.objs.size=some (eM acc c)->R (.ok (.ret (.ref s.heap.objs.size))) {s with heap:=h',toks:=tk}) ->
   codeAny (model prog w) A (.builtin "proto.collect" ⟨[.ref S],[]⟩) R s:=by
  intro R hR
  (refine codeAny_builtin F.entry_proto_collect ?_;rw[Around.under_plainId F.plain_proto_collect _])
  (show wpAny _ A.in1 (newList [] >>= fun l=>again (.builtin "list.__iadd__" ⟨[l,.ref S],[]⟩)) _ _ s;refine wpAny_bind (wpAny_newObj_type ?_))
  (refine wpAny_pure ⟨plainId_quiet F.plain_list_iadd _,codeAny_builtin F.entry_list_iadd ?_⟩;rw[Around.under_plainId F.plain_list_iadd _])
  have up:∀ b ob,s.heap.get? b=some ob->(s.heap.push (eM #[] 0)).get? b=some ob:=fun b ob e=>Heap.get?_push_of_some _ e
  have hp:(s.heap.push (eM #[] 0)).objs.size=s.heap.objs.size+1:=Heap.size_push ..
  have X1:jV prog w ({s with heap:=s.heap.push (eM #[] 0)}:Shared).heap S (cF w) N ks o es ep t:=
   ⟨up _ _ X.ob,X.ex,X.dt,X.tk,X.ful,X.ld,X.pl,X.len,fun i e he=>by
    obtain⟨k,a,h1,h2,h3,h4⟩:=X.it i e he
    exact⟨k,a,h1,h2,h3.at (fun ob hob=>up a ob hob),h4⟩,X.nd⟩
  have hT:Shared.TypeIs {s with heap:=s.heap.push (eM #[] 0)} (.ref S) "set":=⟨o,X1.ob,X.ex.1⟩
  (show wpAny _ A.in1 (Builtin.List.listExtendWith (.ref s.heap.objs.size) (.ref S) (.ref s.heap.objs.size)) _ _ {s with heap:=s.heap.push (eM #[] 0)})
  unfold Builtin.List.listExtendWith
  refine wpAny_bind (wpAny_typeOf hT ?_)
  have h1:Builtin.List.listSameRef (.ref s.heap.objs.size) (.ref S)=false:=by
   simp only[Builtin.List.listSameRef,beq_eq_false_iff_ne]
   exact Nat.ne_of_gt hSlt
  rw[if_neg (by rw[h1];decide)]
  refine wpAny_bind (aR7 X1 ?_)
  have hS2:((s.heap.push (eM #[] 0)).push (kK 0 0 es.size ep S)).get? s.heap.objs.size=some (eM #[] 0):=Heap.get?_push_of_some _ (Heap.get?_push_size _ rfl)
  have hI2:((s.heap.push (eM #[] 0)).push (kK 0 0 es.size ep S)).get? (s.heap.push (eM #[] 0)).objs.size=some (kK 0 0 es.size ep S):=Heap.get?_push_size _ rfl
  have up2:∀ b ob,s.heap.get? b=some ob->((s.heap.push (eM #[] 0)).push (kK 0 0 es.size ep S)).get? b=some ob:=fun b ob e=>Heap.get?_push_of_some _ (up b ob e)
  have hT2:Shared.TypeIs {s with heap:=(s.heap.push (eM #[] 0)).push (kK 0 0 es.size ep S)} (.ref S) "set":=⟨o,up2 _ _ X.ob,X.ex.1⟩
  have b0:SetTable.below t.place 0=0:=by
   have c:=dS X.tk.ri 0
   refine Nat.le_zero.mp (Nat.le_of_not_lt fun z=>?_)
   have hz0:0 < t.place.size:=Nat.lt_of_lt_of_le z c.le
   have e0:t.place[0]? = some t.place[0]:=Array.getElem?_eq_getElem hz0
   exact absurd (c.lo 0 _ z e0) (Nat.not_lt_zero _)
  have ne:s.heap.objs.size≠(s.heap.push (eM #[] 0)).objs.size:=by rw[hp];exact Nat.ne_of_lt (Nat.lt_succ_self _)
  have L:=aZ8 (A:=A.in1) hh (I:=(s.heap.push (eM #[] 0)).objs.size) (L:=s.heap.objs.size) X (by rw[hp];exact Nat.le_succ _) (Nat.le_refl _) ne
  have J0:(∀ b ob,s.heap.get? b=some ob->((s.heap.push (eM #[] 0)).push (kK 0 0 es.size ep S)).get? b=some ob)/\pI w ((s.heap.push (eM #[] 0)).push (kK 0 0 es.size ep S)) (s.heap.push (eM #[] 0)).objs.size S es ep t 0/\(#[]:Array Value).toList=((aP w S ep es).toList.take 0).map (·.2):=⟨up2,⟨0,hI2,fun _=>b0⟩,rfl⟩
  refine wpAny_bind (wpAny_holding (aE0 hT2 fun b=>?_))
  refine wpAny_ite_split (fun _=>?_) (fun _=>wpAny_pure ⟨plainId_quiet F.plain_extend_loop _,aX6 L hz _ es.size 0 _ #[] 0 (by omega) (Nat.zero_le _) J0 rfl hS2 fun h' tk acc c hK hsz hS'=>hR h' tk acc c hK.1 hK.2 hS'⟩)
  (refine wpAny_bind (wpAny_rule ?_);refine wpAny_bind ?_)
  (show wpAny _ _ (updateSeq s.heap.objs.size (·.push .none) >>= fun _=>updateSeq s.heap.objs.size (·.pop)) _ _ _;refine wpAny_bind (wpAny_updateSeq hS2 rfl ?_))
  have hS3:(((s.heap.push (eM #[] 0)).push (kK 0 0 es.size ep S)).update s.heap.objs.size (Obj.mapSeq (·.push Value.none))).get? s.heap.objs.size=some (eM #[.none] 1):=by
   rw[Heap.get?_update_self _ hS2 rfl];simp[Obj.mapSeq]
  refine wpAny_updateSeq (hz:=by seq_fits) hS3 rfl ?_
  have hS4:((((s.heap.push (eM #[] 0)).push (kK 0 0 es.size ep S)).update s.heap.objs.size (Obj.mapSeq (·.push Value.none))).update s.heap.objs.size (Obj.mapSeq (·.pop))).get? s.heap.objs.size=some (eM #[] 2):=by
   rw[Heap.get?_update_self _ hS3 rfl];simp[Obj.mapSeq]
  refine wpAny_pure ⟨plainId_quiet F.plain_extend_loop _,aX6 L hz _ es.size 0 _ #[] 2 (by omega) (Nat.zero_le _) (L.frame _ _ _ _ J0 ?_ fun b ob hb e=>?_) rfl hS4 fun h' tk acc c hK hsz hS'=>hR h' tk acc c hK.1 hK.2 hS'⟩
  ·exact(Heap.size_update ..).trans (Heap.size_update ..)
  ·exact(Heap.get?_update_other _ _ (Ne.symm hb)).trans ((Heap.get?_update_other _ _ (Ne.symm hb)).trans e)
 (unfold collect;refine wpAny_bind (wpAny_runValue (key _ fun h' tk acc c hK ha hS'=>?_)))
 (show wpAny _ A (load s.heap.objs.size >>= _) _ _ _;refine wpAny_bind (wpAny_load hS' ?_))
 rw[← ha]at q
 exact wpAny_pure (q h' tk hK (Heap.lt_size hS'))
end
end PySem
namespace Sx
open PySem PySem.W PyProof.Rows
structure Ord(c:Nat->Nat->Bool):Prop where
 ir:∀ a,c a a=false
 tr:∀ {a b d},c a b=true->c b d=true->c a d=true
 nt:∀ {a b d},c b a=false->c d b=false->c d a=false
noncomputable abbrev at0(p:Array Nat)(i:Nat):Nat:=p.getD i 0
noncomputable def Up(c:Nat->Nat->Bool)(p:Array Nat)(k:Nat):Prop:=∀ i j,i<=j->j < k->c (at0 p j) (at0 p i)=false
noncomputable def Dn(c:Nat->Nat->Bool)(p:Array Nat)(k:Nat):Prop:=∀ i j,i<=j->j < k->c (at0 p i) (at0 p j)=false
noncomputable def Pm(N:Nat)(p:Array Nat):Prop:=p.toList.Perm (List.range N)
theorem Pm.size{N:Nat}{p:Array Nat}(h:Pm N p):p.size=N:=by have:=List.Perm.length_eq h;simpa using this
theorem Pm.lt{N:Nat}{p:Array Nat}(h:Pm N p){i:Nat}(hi:i < N):at0 p i < N:=by
 have hs:=h.size
 have hi':i < p.size:=by omega
 have e:at0 p i=p[i]:=by simp[at0,Array.getD,hi']
 rw[e]
 have:p[i]∈p.toList:=by simp
 exact List.mem_range.mp (h.mem_iff.mp this)
theorem Pm.of{N:Nat}{p q:Array Nat}(h:Pm N p)(hq:q.Perm p):Pm N q:=(Array.perm_iff_toList_perm.mp hq).trans h
theorem xO{p q:Array Nat}{i j:Nat}(h:p[i]? = q[j]?):at0 p i=at0 q j:=by simp[at0,Array.getD_eq_getD_getElem?,h]
theorem fL{p:Array Nat}{i j k:Nat}(hj:j<=p.size):at0 (kas_rev p i j) k=if i<=k/\k < j then at0 p (i+j-1-k)else at0 p k:=by
 have e:=getElem?_mirror_all (xs:=p) (i:=i) (j:=j) hj k
 unfold kas_rev
 by_cases h:i<=k/\k < j
 ·rw[if_pos h]at e ⊢;exact xO e
 ·rw[if_neg h]at e ⊢;exact xO e
theorem Pm.rev{N:Nat}{p:Array Nat}(h:Pm N p)(i j:Nat):Pm N (kas_rev p i j):=h.of (mirror_perm ..)
section
variable{N:Nat}{c:Nat->Nat->Bool}{cmp:Nat->Nat->(Bool->Shared->Prop)->Shared->Prop}{s:Shared}(O:Ord c)(hc:∀ i j C,i < N->j < N->C (c i j) s->cmp i j C s)
include O hc
theorem aS1{p:Array Nat}(hp:Pm N p):∀ (f n:Nat) {G:Nat->Shared->Prop},1<=n->n+f<=N->Up c p n->(∀ m,n<=m->m<=n+f->Up c p m->(m=n+f\/c (at0 p m) (at0 p (m-1))=true)->G m s)->(kas_asc p f n).kasWp cmp G s
 | 0,n,G,h1,h2,hu,q=>q n (Nat.le_refl _) (Nat.le_refl _) hu (.inl rfl)
 | f+1,n,G,h1,h2,hu,q=>by
   show cmp (at0 p n) (at0 p (n-1)) (fun b s'=>(if b=true then KasT.ret n else kas_asc p f (n+1)).kasWp cmp G s') s
   refine hc _ _ _ (hp.lt (by omega)) (hp.lt (by omega)) ?_
   cases hq:c (at0 p n) (at0 p (n-1))with
   | true=>rw[if_pos rfl];exact q n (Nat.le_refl _) (by omega) hu (.inr hq)
   | false=>
     rw[if_neg Bool.false_ne_true]
     refine aS1 hp f (n+1) (by omega) (by omega) (fun i j hij hj=>?_) fun m a1 a2 a3 a4=>q m (by omega) (by omega) a3 (by rcases a4 with z | z;exact .inl (by omega);exact .inr z)
     by_cases hjn:j < n
     ·exact hu i j hij hjn
     ·have:j=n:=by omega
      subst this
      by_cases hij':i=j
      ·subst hij';exact O.ir _
      ·exact O.nt (hu i (j-1) (by omega) (by omega)) hq
omit hc in
theorem Dn.turn{p:Array Nat}{n q:Nat}(hn:n<=p.size)(hq:q+1<=n)(hd:Dn c p n)(he:∀ i j,n-(q+1)<=i->i < n->n-(q+1)<=j->j < n->c (at0 p i) (at0 p j)=false):Dn c (kas_rev p (n-(q+1)) n) n:=by
 intro i j hij hj
 rw[fL hn,fL hn]
 by_cases h1:n-(q+1)<=i/\i < n
 ·rw[if_pos h1,if_pos (by omega)]
  exact he _ _ (by omega) (by omega) (by omega) (by omega)
 ·rw[if_neg h1]
  by_cases h2:n-(q+1)<=j/\j < n
  ·rw[if_pos h2];exact hd i _ (by omega) (by omega)
  ·rw[if_neg h2];exact hd i j hij hj
omit hc in
theorem Dn.less{p:Array Nat}{n:Nat}(h1:1<=n)(hd:Dn c p n)(hl:c (at0 p n) (at0 p (n-1))=true):Dn c p (n+1):=by
 intro i j hij hj
 by_cases hjn:j < n
 ·exact hd i j hij hjn
 ·have:j=n:=by omega
  subst this
  by_cases hi:i=j
  ·subst hi;exact O.ir _
  ·cases hq:c (at0 p i) (at0 p j)with
   | false=>rfl
   | true=>
     have:=O.tr hq hl
     rw[hd i (j-1) (by omega) (by omega)]at this
     exact this.symm
theorem rB:∀ (f:Nat) (p:Array Nat) (n q:Nat) {G:Array Nat×Nat×Nat->Shared->Prop},Pm N p->1<=n->n+f<=N->Dn c p n->q+1<=n->(∀ i j,n-(q+1)<=i->i < n->n-(q+1)<=j->j < n->c (at0 p i) (at0 p j)=false) ->
  (∀ p' m q',Pm N p'->n<=m->m<=n+f->Dn c p' m->q'+1<=m->(∀ i j,m-(q'+1)<=i->i < m->m-(q'+1)<=j->j < m->c (at0 p' i) (at0 p' j)=false)->G (p',m,q') s)->(kas_desc f p n q).kasWp cmp G s
 | 0,p,n,q,G,hp,h1,h2,hd,hq,he,k=>k p n q hp (Nat.le_refl _) (Nat.le_refl _) hd hq he
 | f+1,p,n,q,G,hp,h1,h2,hd,hq,he,k=>by
   have hs:=hp.size
   show cmp (at0 p n) (at0 p (n-1)) (fun b s'=>(if b=true then(if q > 0 then kas_desc f (kas_rev p (n-(q+1)) n) (n+1) 0 else kas_desc f p (n+1) 0)else KasT.ask (at0 p (n-1)) (at0 p n) fun d=>if d=true then KasT.ret (p,n,q)else kas_desc f p (n+1) (q+1)).kasWp cmp G s') s
   refine hc _ _ _ (hp.lt (by omega)) (hp.lt (by omega)) ?_
   have one:∀ (p':Array Nat) i j,n+1-(0+1)<=i->i < n+1->n+1-(0+1)<=j->j < n+1->c (at0 p' i) (at0 p' j)=false:=fun p' i j a1 a2 a3 a4=>by
    have:i=n:=by omega
    have:j=n:=by omega
    subst i;subst j;exact O.ir _
   cases hl:c (at0 p n) (at0 p (n-1))with
   | true=>
     rw[if_pos rfl]
     by_cases hq0:q > 0
     ·rw[if_pos hq0]
      have hd':=Dn.turn O (by omega) hq hd he
      have hn':at0 (kas_rev p (n-(q+1)) n) n=at0 p n:=by rw[fL (by omega),if_neg (by omega)]
      have hl':c (at0 (kas_rev p (n-(q+1)) n) n) (at0 (kas_rev p (n-(q+1)) n) (n-1))=true:=by
       rw[hn',fL (by omega),if_pos (by omega)]
       -- alike to the last one
       cases hx:c (at0 p n) (at0 p (n-(q+1)+n-1-(n-1)))with
       | true=>rfl
       | false=>
         have:=O.nt (he (n-(q+1)+n-1-(n-1)) (n-1) (by omega) (by omega) (by omega) (by omega)) hx
         rw[hl]at this;exact this.symm
      refine rB f _ (n+1) 0 (hp.rev _ _) (by omega) (by omega) (Dn.less O h1 hd' hl') (by omega) (one _) fun p' m q' a1 a2 a3 a4 a5 a6=>k p' m q' a1 (by omega) (by omega) a4 a5 a6
     ·rw[if_neg hq0]
      exact rB f p (n+1) 0 hp (by omega) (by omega) (Dn.less O h1 hd hl) (by omega) (one _) fun p' m q' a1 a2 a3 a4 a5 a6=>k p' m q' a1 (by omega) (by omega) a4 a5 a6
   | false=>
     rw[if_neg Bool.false_ne_true]
     show cmp (at0 p (n-1)) (at0 p n) (fun b s'=>(if b=true then KasT.ret (p,n,q)else kas_desc f p (n+1) (q+1)).kasWp cmp G s') s
     refine hc _ _ _ (hp.lt (by omega)) (hp.lt (by omega)) ?_
     cases hg:c (at0 p (n-1)) (at0 p n)with
     | true=>rw[if_pos rfl];exact k p n q hp (Nat.le_refl _) (by omega) hd hq he
     | false=>
       rw[if_neg Bool.false_ne_true]
       have e1:∀ i,n-(q+1)<=i->i < n->c (at0 p i) (at0 p n)=false/\c (at0 p n) (at0 p i)=false:=fun i a1 a2=>
        ⟨O.nt hg (he i (n-1) a1 a2 (by omega) (by omega)),O.nt (he (n-1) i (by omega) (by omega) a1 a2) hl⟩
       refine rB f p (n+1) (q+1) hp (by omega) (by omega) (fun i j hij hj=>?_) (by omega) (fun i j a1 a2 a3 a4=>?_) fun p' m q' a1 a2 a3 a4 a5 a6=>k p' m q' a1 (by omega) (by omega) a4 a5 a6
       ·by_cases hjn:j < n
        ·exact hd i j hij hjn
        ·have:j=n:=by omega
         subst this
         by_cases hi:i=j
         ·subst hi;exact O.ir _
         ·exact O.nt hg (hd i (j-1) (by omega) (by omega))
       ·by_cases hi:i=n
        ·by_cases hj:j=n
         ·subst hi;subst hj;exact O.ir _
         ·subst hi;exact(e1 j (by omega) (by omega)).2
        ·by_cases hj:j=n
         ·subst hj;exact(e1 i (by omega) (by omega)).1
         ·exact he i j (by omega) (by omega) (by omega) (by omega)
theorem aS2{p:Array Nat}{n:Nat}(hp:Pm N p)(h1:1<=n)(hn:n<=N)(hd:Dn c p n){G:Nat×Array Nat->Shared->Prop}(k:∀ m p',Pm N p'->1<=m->m<=N->Up c p' m->G (m,p') s):(kas_tail3 n N p).kasWp cmp G s:=by
 have hs:=hp.size
 unfold kas_tail3
 rw[KasT.kasWp_bind]
 refine aS1 O hc (hp.rev 0 n) (N-n) n h1 (by omega) (fun i j hij hj=>?_) fun m a1 a2 a3 _=>k m _ (hp.rev 0 n) (by omega) (by omega) a3
 rw[fL (by omega),fL (by omega),if_pos (by omega),if_pos (by omega)]
 exact hd _ _ (by omega) (by omega)
theorem oN{p:Array Nat}{n:Nat}(hp:Pm N p)(h1:1<=n)(hn:n+1<=N)(hd:Dn c p (n+1)){G:Nat×Array Nat->Shared->Prop}(k:∀ m p',Pm N p'->1<=m->m<=N->Up c p' m->G (m,p') s):(kas_descPart n N p).kasWp cmp G s:=by
 unfold kas_descPart
 rw[KasT.kasWp_bind]
 refine rB O hc (N-(n+1)) p (n+1) 0 hp (by omega) (by omega) hd (by omega) (fun i j a1 a2 a3 a4=>?_) fun p' m q' b1 b2 b3 b4 b5 b6=>?_
 ·have:i=n:=by omega
  have:j=n:=by omega
  subst i;subst j;exact O.ir _
 ·have hs:=b1.size
  dsimp only
  split
  ·exact aS2 O hc (b1.rev _ _) (by omega) (by omega) (Dn.turn O (by omega) b5 b4 b6) k
  ·exact aS2 O hc b1 (by omega) (by omega) b4 k
theorem aZ9{p:Array Nat}(hp:Pm N p)(hN:1<=N){G:Nat×Array Nat->Shared->Prop}(k:∀ m p',Pm N p'->1<=m->m<=N->Up c p' m->G (m,p') s):(kas_count N p).kasWp cmp G s:=by
 have hs:=hp.size
 unfold kas_count
 rw[KasT.kasWp_bind]
 refine aS1 O hc hp (N-1) 1 (Nat.le_refl _) (by omega) (fun i j hij hj=>?_) fun n a1 a2 a3 a4=>?_
 ·have:i=j:=by omega
  subst this;exact O.ir _
 ·by_cases hnN:n=N
  ·subst hnN;rw[if_pos (by simp)];exact k n p hp (by omega) (Nat.le_refl _) a3
  ·rw[if_neg (by simpa using hnN)]
   have hlt:c (at0 p n) (at0 p (n-1))=true:=by rcases a4 with z | z;omega;exact z
   by_cases hn1:n > 1
   ·rw[if_pos hn1]
    show cmp (at0 p 0) (at0 p (n-1)) (fun b s'=>(if b=true then KasT.ret (n,p)else kas_descPart n N (kas_rev p 0 n)).kasWp cmp G s') s
    refine hc _ _ _ (hp.lt (by omega)) (hp.lt (by omega)) ?_
    cases hr:c (at0 p 0) (at0 p (n-1))with
    | true=>rw[if_pos rfl];exact k n p hp (by omega) (by omega) a3
    | false=>
      rw[if_neg Bool.false_ne_true]
      -- all of them are alike
      have al:∀ i j,i < n->j < n->c (at0 p i) (at0 p j)=false:=fun i j hi hj=>by
       have x1:c (at0 p 0) (at0 p j)=false:=O.nt (a3 j (n-1) (by omega) (by omega)) hr
       have x2:c (at0 p i) (at0 p 0)=false:=a3 0 i (by omega) hi
       exact O.nt x1 x2
      refine oN O hc (hp.rev 0 n) (by omega) (by omega) (Dn.less O (by omega) (fun i j hij hj=>?_) ?_) k
      ·rw[fL (by omega),fL (by omega),if_pos (by omega),if_pos (by omega)]
       exact al _ _ (by omega) (by omega)
      ·rw[fL (by omega),fL (by omega),if_neg (by omega),if_pos (by omega)]
       cases hx:c (at0 p n) (at0 p (0+n-1-(n-1)))with
       | true=>rfl
       | false=>
         have:=O.nt (al (0+n-1-(n-1)) (n-1) (by omega) (by omega)) hx
         rw[hlt]at this;exact this.symm
   ·rw[if_neg hn1]
    have:n=1:=by omega
    subst this
    refine oN O hc hp (Nat.le_refl _) (by omega) (Dn.less O (Nat.le_refl _) (fun i j hij hj=>?_) hlt) k
    have:i=j:=by omega
    subst this;exact O.ir _
theorem rC{p:Array Nat}{k:Nat}(hp:Pm N p)(hk:k < N)(hu:Up c p k):∀ (f l r:Nat) {G:Nat->Shared->Prop},l<=r->r<=k->r-l<=f->(∀ i,i < l->c (at0 p k) (at0 p i)=false)->(∀ i,r<=i->i < k->c (at0 p k) (at0 p i)=true) ->
  (∀ m,m<=k->(∀ i,i < m->c (at0 p k) (at0 p i)=false)->(∀ i,m<=i->i < k->c (at0 p k) (at0 p i)=true)->G m s)->(kas_place p k f l r).kasWp cmp G s
 | 0,l,r,G,h1,h2,h3,a,b,q=>by
   have:l=r:=by omega
   subst this
   exact q l h2 a b
 | f+1,l,r,G,h1,h2,h3,a,b,q=>by
   unfold kas_place
   split
   ·have:l=r:=by omega
    subst this
    exact q l h2 a b
   ·show cmp (at0 p k) (at0 p ((l+r) / 2)) (fun d s'=>(if d=true then kas_place p k f l ((l+r) / 2)else kas_place p k f ((l+r) / 2+1) r).kasWp cmp G s') s
    refine hc _ _ _ (hp.lt hk) (hp.lt (by omega)) ?_
    cases hq:c (at0 p k) (at0 p ((l+r) / 2))with
    | true=>
      rw[if_pos rfl]
      refine rC hp hk hu f l _ (by omega) (by omega) (by omega) a (fun i hi1 hi2=>?_) q
      cases hx:c (at0 p k) (at0 p i)with
      | true=>rfl
      | false=>
        have:=hu ((l+r) / 2) i hi1 hi2
        have:=O.nt this hx
        rw[hq]at this;exact this.symm
    | false=>
      rw[if_neg Bool.false_ne_true]
      refine rC hp hk hu f _ r (by omega) h2 (by omega) (fun i hi=>?_) b q
      exact O.nt (hu i ((l+r) / 2) (by omega) (by omega)) hq
theorem bD8:∀ (f:Nat) (p:Array Nat) (k:Nat) {G:Array Nat->Shared->Prop},Pm N p->k+f=N->Up c p k->(∀ p',Pm N p'->Up c p' N->G p' s)->(kas_bin f p k).kasWp cmp G s
 | 0,p,k,G,hp,hk,hu,q=>by
   have:k=N:=by omega
   subst this
   exact q p hp hu
 | f+1,p,k,G,hp,hk,hu,q=>by
   have hs:=hp.size
   unfold kas_bin
   rw[KasT.kasWp_bind]
   refine rC O hc hp (by omega) hu k 0 k (Nat.zero_le _) (Nat.le_refl _) (by omega) (fun i h=>absurd h (Nat.not_lt_zero _)) (fun i h1 h2=>by omega) fun m hm h1 h2=>?_
   have gb:∀ i,at0 (bubble p k (k-m)) i=if i=m then at0 p k else if m < i/\i<=k then at0 p (i-1)else at0 p i:=fun i=>by
    have e:=getElem?_bubble (xs:=p) (src:=k) (by omega) (k-m) (by omega) i
    have e1:k-(k-m)=m:=by omega
    rw[e1]at e
    by_cases z1:i=m
    ·rw[if_pos z1]at e ⊢;exact xO e
    ·rw[if_neg z1]at e ⊢
     by_cases z2:m < i/\i<=k
     ·rw[if_pos z2]at e ⊢;exact xO e
     ·rw[if_neg z2]at e ⊢;exact xO e
   refine bD8 f _ (k+1) (hp.of (bubble_perm ..)) (by omega) (fun i j hij hj=>?_) q
   rw[gb,gb]
   by_cases zj:j=m
   ·rw[if_pos zj]
    by_cases zi:i=m
    ·rw[if_pos zi];exact O.ir _
    ·rw[if_neg zi,if_neg (by omega)];exact h1 i (by omega)
   ·rw[if_neg zj]
    by_cases zi:i=m
    ·rw[if_pos zi,if_pos (by omega)]
     -- the placed one is less than those behind it
     have x:=h2 (j-1) (by omega) (by omega)
     cases hy:c (at0 p (j-1)) (at0 p k)with
     | false=>rfl
     | true=>have:=O.tr hy x;rw[O.ir]at this;exact this.symm
    ·rw[if_neg zi]
     by_cases yj:m < j/\j<=k
     ·rw[if_pos yj]
      by_cases yi:m < i/\i<=k
      ·rw[if_pos yi];exact hu _ _ (by omega) (by omega)
      ·rw[if_neg yi];exact hu _ _ (by omega) (by omega)
     ·rw[if_neg yj,if_neg (by omega)];exact hu _ _ hij (by omega)
theorem bK4(hN:1<=N){G:Array Nat->Shared->Prop}(q:∀ p,Pm N p->Up c p N->G p s):(kas_sort N).kasWp cmp G s:=by
 unfold kas_sort
 rw[KasT.kasWp_bind]
 refine aZ9 O hc (p:=List.toArray (List.range N)) (.refl _) hN fun m p' hp h1 h2 hu=>?_
 dsimp only
 split
 ·have e:max m 1=m:=by omega
  rw[e]
  exact bD8 O hc (N-m) p' m hp (by omega) hu q
 ·have:m=N:=by omega
  subst this
  exact q p' hp hu
end
end Sx
namespace Sx
open PySem PySem.W PyProof.Rows
noncomputable def tlt:List Int->List Int->Bool
 | _,[]=>false
 | [],_::_=>true
 | a::x,b::y=>if a=b then tlt x y else decide (a < b)
theorem oO:∀ x,tlt x x=false
 | []=>rfl
 | a::x=>by show(if a=a then tlt x x else _)=false;rw[if_pos rfl];exact oO x
theorem aE1:∀ {x y z},tlt x y=true->tlt y z=true->tlt x z=true
 | _,[],_,h,_=>by simp[tlt]at h
 | _,_::_,[],_,h=>by simp[tlt]at h
 | [],_::_,_::_,_,_=>rfl
 | a::x,b::y,d::z,h1,h2=>by
   have h1':(if a=b then tlt x y else decide (a < b))=true:=h1
   have h2':(if b=d then tlt y z else decide (b < d))=true:=h2
   show(if a=d then tlt x z else decide (a < d))=true
   by_cases e1:a=b
   ·rw[if_pos e1]at h1'
    by_cases e2:b=d
    ·rw[if_pos e2]at h2';rw[if_pos (e1.trans e2)];exact aE1 h1' h2'
    ·rw[if_neg e2]at h2';rw[if_neg (by omega)];simp at h2' ⊢;omega
   ·rw[if_neg e1]at h1'
    by_cases e2:b=d
    ·rw[if_pos e2]at h2';rw[if_neg (by omega)];simp at h1' ⊢;omega
    ·rw[if_neg e2]at h2'
     simp at h1' h2'
     rw[if_neg (by omega)];simp;omega
theorem bD9:∀ {x y z},tlt y x=false->tlt z y=false->tlt z x=false
 | [],_,_,_,_=>by cases ‹List Int› <;> rfl
 | _::_,[],_,h,_=>by simp[tlt]at h
 | _::_,_::_,[],_,h=>by simp[tlt]at h
 | a::x,b::y,d::z,h1,h2=>by
   have h1':(if b=a then tlt y x else decide (b < a))=false:=h1
   have h2':(if d=b then tlt z y else decide (d < b))=false:=h2
   show(if d=a then tlt z x else decide (d < a))=false
   by_cases e1:b=a
   ·rw[if_pos e1]at h1'
    by_cases e2:d=b
    ·rw[if_pos e2]at h2';rw[if_pos (e2.trans e1)];exact bD9 h1' h2'
    ·rw[if_neg e2]at h2';rw[if_neg (by omega)];simp at h2' ⊢;omega
   ·rw[if_neg e1]at h1'
    by_cases e2:d=b
    ·rw[if_pos e2]at h2';rw[if_neg (by omega)];simp at h1' ⊢;omega
    ·rw[if_neg e2]at h2'
     simp at h1' h2'
     rw[if_neg (by omega)];simp;omega
theorem zR:∀ {x y},tlt x y=false->tlt y x=false->x=y
 | [],[],_,_=>rfl
 | [],_::_,h,_=>by simp[tlt]at h
 | _::_,[],_,h=>by simp[tlt]at h
 | a::x,b::y,h1,h2=>by
   have h1':(if a=b then tlt x y else decide (a < b))=false:=h1
   have h2':(if b=a then tlt y x else decide (b < a))=false:=h2
   by_cases e:a=b
   ·rw[if_pos e]at h1';rw[if_pos e.symm]at h2';rw[e,zR h1' h2']
   ·rw[if_neg e]at h1';rw[if_neg fun z=>e z.symm]at h2'
    simp at h1' h2';omega
theorem bK5(ks:List (List Int)):Ord fun i j=>tlt (ks.getD i []) (ks.getD j []):=⟨fun a=>oO _,aE1,bD9⟩
section
variable{prog:Program}{w:World}{A:Around}{E:Value->Shared->Prop}{s:Shared}
theorem bE0{b:Bool}{Q:Bool->Shared->Prop}:∀ {x y:List Int} {xs ys:List Value} (i:Nat) (fin:Bool),ItemsAre (intKind prog w) x xs->ItemsAre (intKind prog w) y ys->fin=decide (xs.length+i < ys.length+i)->Q (tlt x y) s->KatLex prog w A b (decide (xs.length < ys.length)) Q (xs.zip ys) i s
 | _,_,_,_,i,fin,.nil,.nil,_,q=>q
 | _,_,_,_,i,fin,.nil,.cons _ _,_,q=>by
   show Q (decide (0 < _)) s
   rw[decide_eq_true (by simp)];exact q
 | _,_,_,_,i,fin,.cons _ _,.nil,_,q=>by
   show Q (decide (_ < 0)) s
   rw[decide_eq_false (by simp)];exact q
 | _,_,_,_,i,fin,.cons (k:=a) (ks:=x) h1 r1,.cons (k:=d) (ks:=y) h2 r2,_,q=>by
   obtain⟨t,rfl⟩:=Value.isInt_shape h1
   obtain⟨u,rfl⟩:=Value.isInt_shape h2
   rw[List.zip_cons_cons]
   refine kat_cons (wpAny_eqBool_int ?_)
   have q':Q (if a=d then tlt x y else decide (a < d)) s:=q
   by_cases e:a=d
   ·rw[if_pos e]at q'
    rw[show(a==d)=true from beq_iff_eq.mpr e]
    refine kat_yes ?_
    have:=bE0 (b:=b) (i+1) (decide (_+(i+1) < _+(i+1))) r1 r2 rfl q'
    simpa using this
   ·rw[if_neg e]at q'
    rw[show(a==d)=false by simpa using e]
    refine kat_no ?_
    cases (b&&i==0)with
    | true=>exact oneLt_int q'
    | false=>exact kat_one _ _ (lt_int q')
theorem bK6{ks:List (List Int)}{vs:List Value}{b:Bool}{N:Addr->Prop}{i j:Nat}{C:Bool->Shared->Prop}(T:gM prog w s.heap N ks vs.toArray)(hi:i < vs.length)(hj:j < vs.length)(q:C (tlt (ks.getD i []) (ks.getD j [])) s):kas_ask prog w A (tuples' b) vs i j C s:=by
 obtain⟨k1,a1,e1,v1,⟨o1,x1,n1,g1,_,d1,r1⟩,_⟩:=T.2 i vs[i] (by rw[List.getElem?_toArray];exact List.getElem?_eq_getElem hi)
 obtain⟨k2,a2,e2,v2,⟨o2,x2,n2,g2,_,d2,r2⟩,_⟩:=T.2 j vs[j] (by rw[List.getElem?_toArray];exact List.getElem?_eq_getElem hj)
 have f1:vs.getD i Value.none=.ref a1:=by rw[List.getD_eq_getElem?_getD,List.getElem?_eq_getElem hi,v1];rfl
 have f2:vs.getD j Value.none=.ref a2:=by rw[List.getD_eq_getElem?_getD,List.getElem?_eq_getElem hj,v2];rfl
 have f3:ks.getD i []=k1:=by rw[List.getD_eq_getElem?_getD,e1];rfl
 have f4:ks.getD j []=k2:=by rw[List.getD_eq_getElem?_getD,e2];rfl
 unfold kas_ask
 rw[f1,f2]
 rw[f3,f4]at q
 refine kat_lt g1 d1 g2 d2 ?_
 have:=bE0 (b:=b) (A:=A) 0 (decide (x1.toList.length+0 < x2.toList.length+0)) r1 r2 rfl q
 simpa using this
theorem bA0{ks:List (List Int)}{vs:List Value}{N:Addr->Prop}{Q:SortKind->Shared->Prop}(T:gM prog w s.heap N ks vs.toArray)(hne:0 < vs.length)(hk:∀ k∈ks,k≠[])(q:Q (tuples' true) s):wpAny (model prog w) A (keyKind' vs.toArray) Q E s:=by
 have key:∀ (vs:List Value) (ks:List (List Int)),(∀ (i:Nat) v,vs[i]? = some v->∃ k a,ks[i]? = some k/\v=.ref a/\lI prog w s.heap k a)->(∀ k∈ks,k≠[])->∃ fs:List Value,KatTups s.heap vs fs/\fs.length=vs.length/\∀ v∈fs,∃ i t,v=.int i t:=by
  intro vs
  induction vs with
  | nil=>intro ks _ _;exact⟨[],KatTups.nil,rfl,by simp⟩
  | cons v r ih=>
    intro ks h1 h2
    obtain⟨k,a,e1,rfl,o,items,n,g,hc,hd,hi⟩:=h1 0 v rfl
    cases ks with
    | nil=>simp at e1
    | cons k' ks=>
      simp at e1
      subst e1
      obtain⟨fs,f1,f2,f3⟩:=ih ks (fun i u hu=>h1 (i+1) u (by simpa using hu)) fun x hx=>h2 x (List.mem_cons_of_mem _ hx)
      have hk0:=h2 _ List.mem_cons_self
      cases hit:items.toList with
      | nil=>
        rw[hit]at hi
        cases hi
        exact absurd rfl hk0
      | cons f eE=>
        have e0:items[0]? = some f:=by rw[← Array.getElem?_toList,hit];rfl
        obtain⟨i,t,ef⟩:=iI hi f (by rw[hit];exact List.mem_cons_self)
        refine⟨f::fs,KatTups.cons g hc hd e0 f1,by simp[f2],fun x hx=>?_⟩
        rcases List.mem_cons.mp hx with rfl | hx
        ·exact⟨i,t,ef⟩
        ·exact f3 x hx
 obtain⟨fs,f1,f2,f3⟩:=key vs ks (fun i v e=>by
  obtain⟨k,a,h1,h2,h3,_⟩:=T.2 i v (by rw[List.getElem?_toArray];exact e)
  exact⟨k,a,h1,h2,h3⟩) hk
 refine kat_kind (T:=.type "int") f1 (by omega) (fun v hv=>?_) (by decide) q
 obtain⟨i,t,rfl⟩:=f3 v hv
 exact .now
theorem aS3{ks:List (List Int)}{vs:List Value}{N:Addr->Prop}{D n:Nat}{P:PySem.Fin->Shared->Prop}(ho:s.heap.get? D=some (seqObj "list" vs.toArray n))(hD:¬ N D)(T:gM prog w s.heap N ks vs.toArray)(h64:vs.length < 64)(hk:2<=vs.length->∀ k∈ks,k≠[])
  (q:∀ h' p c,Pm vs.length p->Up (fun i j=>tlt (ks.getD i []) (ks.getD j [])) p vs.length->h'.get? D=some (seqObj "list" (List.toArray (p.toList.map fun i=>vs.getD i Value.none)) c)->(∀ b ob,b≠D->s.heap.get? b=some ob->h'.get? b=some ob)->P (.done (.ret .none)) {s with heap:=h'}) :
  wpAny (model prog w) A (Builtin.«list.sort» ⟨[.ref D],[]⟩) P E s:=by
 have hlt:D < s.heap.objs.size:=Heap.lt_size ho
 have hz:vs.length<=sizeLine:=by rw[sizeLine_eq];omega
 rw[list_sort_plain]
 refine wpAny_bind (listItems_at ho rfl (wpAny_bind (listUpdate_at ho rfl ?_ (by simpa using hz) (Nat.zero_le _))))
 obtain⟨e1,ho1⟩:∃ e1,(s.heap.update D (Obj.mapSeq fun _=>(#[]:Array Value))).get? D=some (seqObj "list" #[] e1):=⟨_,get?_update_seq ho fun _=>#[]⟩
 refine wpAny_bind (seqEpoch_at ho1 rfl (wpAny_bind (wpAny_newTuple ?_ (by simpa using hz))))
 refine wpAny_bind (wpAny_newList ?_ (Nat.zero_le _))
 refine wpAny_holding ?_
 have kept:∀ b ob,b≠D->s.heap.get? b=some ob->(((s.heap.update D (Obj.mapSeq fun _=>(#[]:Array Value))).push (seqObj "tuple" vs.toArray 0)).push (seqObj "list" #[] 0)).get? b=some ob:=fun b ob hb e=>Heap.get?_push_of_some _ (Heap.get?_push_of_some _ ((Heap.get?_update_other _ _ (Ne.symm hb)).trans e))
 have hoD:(((s.heap.update D (Obj.mapSeq fun _=>(#[]:Array Value))).push (seqObj "tuple" vs.toArray 0)).push (seqObj "list" #[] 0)).get? D=some (seqObj "list" #[] e1):=Heap.get?_push_of_some _ (Heap.get?_push_of_some _ ho1)
 show wpAny (model prog w) A _ P E {s with heap:=((s.heap.update D (Obj.mapSeq fun _=>(#[]:Array Value))).push (seqObj "tuple" vs.toArray 0)).push (seqObj "list" #[] 0)}
 generalize ((s.heap.update D (Obj.mapSeq fun _=>(#[]:Array Value))).push (seqObj "tuple" vs.toArray 0)).push (seqObj "list" #[] 0)=h1 at kept hoD ⊢
 have T1:gM prog w h1 N ks vs.toArray:=T.stay fun b ob hb e=>kept b ob (fun z=>hD (z ▸ hb)) e
 dsimp only
 have fin:∀ (out:Array Value) (p:Array Nat),out=List.toArray (p.toList.map fun i=>vs.getD i Value.none)->Pm vs.length p->Up (fun i j=>tlt (ks.getD i []) (ks.getD j [])) p vs.length->out.size<=sizeLine+1 ->
   P (.done (.ret .none)) {s with heap:=h1.update D (Obj.mapSeq fun _=>out)}:=fun out p e hp hu _=>by
  obtain⟨c2,hc2⟩:∃ c2,(h1.update D (Obj.mapSeq fun _=>out)).get? D=some (seqObj "list" out c2):=⟨_,get?_update_seq hoD fun _=>out⟩
  subst e
  exact q _ p c2 hp hu hc2 fun b ob hb e=>(Heap.get?_update_other _ _ (Ne.symm hb)).trans (kept b ob hb e)
 by_cases h2:vs.toArray.size < 2
 ·rw[if_pos h2,if_pos h2]
  refine wpAny_bind (wpAny_pure ?_)
  rw[StateT.run_pure]
  refine wpAny_bind (wpAny_pure ?_)
  dsimp only
  refine wpAny_bind (seqEpoch_at hoD rfl ?_)
  have es:(arrOf (SortSt.mk' general' (vs.toArray.zip vs.toArray) #[] 7 none)).map (·.2)=vs.toArray:=by
   show(vs.toArray.zip vs.toArray).map (·.2)=vs.toArray
   apply Array.toList_inj.mp
   rw[Array.toList_map,Array.toList_zip,List.map_snd_zip (Nat.le_refl _)]
  refine wpAny_bind (listUpdate_at hoD rfl ?_ (Nat.zero_le _) (by rw[es];simp;omega))
  simp only[bne_self_eq_false,Bool.false_eq_true,if_false]
  rw[es]
  refine wpAny_pure (fin vs.toArray (List.toArray (List.range vs.length)) ?_ (.refl _) (fun i j hij hj=>?_) (by simp;omega))
  ·apply Array.toList_inj.mp
   show vs=(List.range vs.length).map fun i=>vs.getD i Value.none
   refine List.ext_getElem? fun i=>?_
   rw[List.getElem?_map]
   by_cases hi:i < vs.length
   ·rw[List.getElem?_range hi,List.getElem?_eq_getElem hi]
    simp[hi]
   ·rw[List.getElem?_eq_none (by omega),List.getElem?_eq_none (by simp;omega)];rfl
  ·have:i=j:=by simp at h2;omega
   subst this;exact oO _
 ·rw[if_neg h2,if_neg h2]
  have h2':2<=vs.length:=by simp at h2;omega
  refine wpAny_bind (bA0 (s:={s with heap:=h1}) T1 (by omega) (hk h2') ?_)
  refine wpAny_bind (wpAny_mono (kat_run (s:={s with heap:=h1}) (κ:=tuples' true) (Q:=fun st' s'=>s'={s with heap:=h1}/\failedOf st'=none/\∃ p:Array Nat,Pm vs.length p/\Up (fun i j=>tlt (ks.getD i []) (ks.getD j [])) p vs.length/\(arrOf st').map (·.2)=List.toArray (p.toList.map fun i=>vs.getD i Value.none))
   (G:=fun p s'=>s'={s with heap:=h1}/\Pm vs.length p/\Up (fun i j=>tlt (ks.getD i []) (ks.getD j [])) p vs.length) rfl h2' h64 (fun p st' s' a1 a2 a3 ⟨a4,a5,a6⟩=>⟨a4,a3,p,a5,a6,kat_snds rfl a2⟩) ?_) ?_ fun _ _ e=>e)
  ·exact bK4 (bK5 ks) (fun i j C hi hj q'=>bK6 (s:={s with heap:=h1}) T1 hi hj q') (by omega) fun p hp hu=>⟨rfl,hp,hu⟩
  ·rintro⟨⟨⟩,st'⟩ s' ⟨rfl,hf,p,hp,hu,hout⟩
   dsimp only
   refine wpAny_bind (seqEpoch_at hoD rfl ?_)
   have hsz:(List.toArray (p.toList.map fun i=>vs.getD i Value.none)).size=vs.length:=by rw[List.size_toArray,List.length_map,Array.length_toList,hp.size]
   rw[hout]
   refine wpAny_bind (listUpdate_at hoD rfl ?_ (Nat.zero_le _) (by show(List.toArray _).size<=_;rw[hsz];omega))
   rw[hf]
   simp only[bne_self_eq_false,Bool.false_eq_true,if_false]
   exact wpAny_pure (fin _ p rfl hp hu (by rw[hsz];omega))
end
end Sx
namespace Sx
open PySem PySem.W PyProof.Rows
noncomputable def aS4(k:List Int):List (List Int)->List (List Int)
 | []=>[k]
 | x::r=>if tlt k x=true then k::x::r else if k=x then x::r else x::aS4 k r
noncomputable def srt:List (List Int)->List (List Int)
 | []=>[]
 | k::r=>aS4 k (srt r)
noncomputable abbrev aE2(l:List (List Int)):Prop:=l.Pairwise fun a b=>tlt a b=true
theorem rD(k:List Int):∀ (l:List (List Int)) (x:List Int),x∈aS4 k l↔x=k\/x∈l
 | [],x=>by simp[aS4]
 | y::r,x=>by
   unfold aS4
   split
   ·simp
   ·split
    ·rename_i h;subst h;simp
    ·rw[List.mem_cons,rD k r x,List.mem_cons]
     constructor
     ·rintro(h | h | h)
      ·exact .inr (.inl h)
      ·exact .inl h
      ·exact .inr (.inr h)
     ·rintro(h | h | h)
      ·exact .inr (.inl h)
      ·exact .inl h
      ·exact .inr (.inr h)
theorem aE3(k:List Int):∀ (l:List (List Int)),aE2 l->aE2 (aS4 k l)
 | [],_=>List.pairwise_singleton _ _
 | y::r,h=>by
   obtain⟨h1,h2⟩:=List.pairwise_cons.mp h
   unfold aS4
   split
   ·rename_i hk
    refine List.pairwise_cons.mpr ⟨fun x hx=>?_,h⟩
    rcases List.mem_cons.mp hx with rfl | hx
    ·exact hk
    ·exact aE1 hk (h1 x hx)
   ·split
    ·exact h
    ·rename_i hn he
     refine List.pairwise_cons.mpr ⟨fun x hx=>?_,aE3 k r h2⟩
     rcases(rD k r x).mp hx with rfl | hx
     ·cases hq:tlt y x with
      | true=>rfl
      | false=>exact absurd (zR (by simpa using hn) hq) he
     ·exact h1 x hx
theorem eV:∀ (l:List (List Int)) (x:List Int),x∈srt l↔x∈l
 | [],x=>by simp[srt]
 | k::r,x=>by
   show x∈aS4 k (srt r)↔_
   rw[rD,eV r x,List.mem_cons]
theorem gD:∀ (l:List (List Int)),aE2 (srt l)
 | []=>.nil
 | k::r=>aE3 k _ (gD r)
theorem xP{l:List (List Int)}(h:aE2 l):l.Nodup:=List.nodup_iff_pairwise_ne.mpr (h.imp fun{a b} h e=>by subst e;rw[oO]at h;cases h)
theorem xQ:∀ {a b:List (List Int)},aE2 a->aE2 b->(∀ x,x∈a↔x∈b)->a=b
 | [],[],_,_,_=>rfl
 | [],y::b,_,_,h=>by have:=(h y).mpr List.mem_cons_self;simp at this
 | x::a,[],_,_,h=>by have:=(h x).mp List.mem_cons_self;simp at this
 | x::a,y::b,ha,hb,h=>by
   obtain⟨a1,a2⟩:=List.pairwise_cons.mp ha
   obtain⟨b1,b2⟩:=List.pairwise_cons.mp hb
   have hxy:x=y:=by
    rcases List.mem_cons.mp ((h x).mp List.mem_cons_self)with e | e
    ·exact e
    ·rcases List.mem_cons.mp ((h y).mpr List.mem_cons_self)with e' | e'
     ·exact e'.symm
     ·have:=aE1 (b1 x e) (a1 y e')
      rw[oO]at this;cases this
   subst hxy
   have nx:x∉a:=fun z=>by have:=a1 x z;rw[oO]at this;cases this
   have ny:x∉b:=fun z=>by have:=b1 x z;rw[oO]at this;cases this
   rw[xQ a2 b2 fun z=>?_]
   constructor
   ·intro hz
    rcases List.mem_cons.mp ((h z).mp (List.mem_cons_of_mem _ hz))with e | e
    ·subst e;exact absurd hz nx
    ·exact e
   ·intro hz
    rcases List.mem_cons.mp ((h z).mpr (List.mem_cons_of_mem _ hz))with e | e
    ·subst e;exact absurd hz ny
    ·exact e
theorem bW0{ks l:List (List Int)}{p:Array Nat}(hn:ks.Nodup)(hm:∀ x,x∈ks↔x∈l)(hp:Pm ks.length p)(hu:Up (fun i j=>tlt (ks.getD i []) (ks.getD j [])) p ks.length):p.toList.map (fun i=>ks.getD i [])=srt l:=by
 have hs:=hp.size
 have e1:(List.range ks.length).map (fun i=>ks.getD i [])=ks:=by
  refine List.ext_getElem? fun i=>?_
  rw[List.getElem?_map]
  by_cases hi:i < ks.length
  ·rw[List.getElem?_range hi,List.getElem?_eq_getElem hi];simp[hi]
  ·rw[List.getElem?_eq_none (l:=ks) (by omega),List.getElem?_eq_none (l:=List.range ks.length) (by rw[List.length_range];omega)];rfl
 have pm:(p.toList.map fun i=>ks.getD i []).Perm ks:=by
  have:=hp.map fun i=>ks.getD i []
  rw[e1]at this;exact this
 refine xQ ?_ (gD l) fun x=>by rw[pm.mem_iff,hm x,eV]
 have nd:(p.toList.map fun i=>ks.getD i []).Nodup:=pm.nodup_iff.mpr hn
 rw[aE2,List.pairwise_iff_getElem]
 intro i j hi hj hij
 have hi':i < p.size:=by simpa using hi
 have hj':j < p.size:=by simpa using hj
 have ei:at0 p i=p.toList[i]:=by simp[at0,Array.getD,hi']
 have ej:at0 p j=p.toList[j]:=by simp[at0,Array.getD,hj']
 have h1:=hu i j (Nat.le_of_lt hij) (by omega)
 rw[ei,ej]at h1
 have h1':tlt (ks.getD p.toList[j] []) (ks.getD p.toList[i] [])=false:=h1
 rw[List.getElem_map,List.getElem_map]
 cases hq:tlt (ks.getD p.toList[i] []) (ks.getD p.toList[j] [])with
 | true=>rfl
 | false=>
   exfalso
   have e:=zR hq h1'
   have:=(List.nodup_iff_pairwise_ne.mp nd)
   rw[List.pairwise_iff_getElem]at this
   exact this i j hi hj hij (by rw[List.getElem_map,List.getElem_map];exact e)
end Sx
namespace PySem
open Sx PySem.W PyProof.Rows
section
variable{prog:Program}{w:World}{A:Around}{E:Value->Shared->Prop}{s:Shared}{S:Addr}{N:Addr->Prop}{ks:List (List Int)}{o:Obj}{es:Array (Int×Value)}{ep:Nat}{t:SetTable}
theorem zS(hh:A.handled=none)(X:jV prog w s.heap S (cF w) N ks o es ep t)(hN:∀ a,N a->a < s.heap.objs.size)(h64:es.size < 64)(hk:2<=es.size->∀ k∈ks,k≠[]){l:List (List Int)}(hm:∀ x,x∈ks↔x∈l){Q:Value->Shared->Prop}
  (q:∀ h' tk D vs c,s.heap.objs.size<=D->h'.get? D=some (seqObj "list" (List.toArray vs) c)->gM prog w h' N (srt l) (List.toArray vs)->(∀ b ob,s.heap.get? b=some ob->h'.get? b=some ob)->Q (.ref D) {s with heap:=h',toks:=tk}) :
  wpAny (model prog w) A (call (.builtin "sorted") [.ref S]) Q E s:=by
 have hz:es.size<=sizeLine:=by rw[sizeLine_eq];omega
 -- the keys in the order of the walk
 have pm:=gC (w:=w) (S:=S) (ep:=ep) es
 have hwl:(aP w S ep es).toList.length=es.size:=by have:=pm.length_eq;simpa using this
 have hitem:∀ e∈(aP w S ep es).toList,∃ k a,k∈ks/\e=(tupleKeyHash (intKind prog w) k,Value.ref a)/\lI prog w s.heap k a/\N a:=fun e he=>by
  have:=pm.mem_iff.mp he
  obtain⟨i,hi,ei⟩:=Array.getElem_of_mem (by simpa using this:e∈es)
  obtain⟨k,a,h1,h2,h3,h4⟩:=X.it i e (by rw[Array.getElem?_eq_getElem hi,ei])
  exact⟨k,a,List.mem_of_getElem? h1,h2,h3,h4⟩
 -- one key for each
 have hks:∃ us:List (List Int),us.Perm ks/\us.length=es.size/\∀ (i:Nat) e,(aP w S ep es).toList[i]? = some e->∃ k a,us[i]? = some k/\e.2=Value.ref a/\lI prog w s.heap k a/\N a:=by
  -- a key for each entry,by its own value
  have f:∀ e:Int×Value,∃ k:List Int,∀ k' a,e.2=Value.ref a->lI prog w s.heap k' a->k'=k:=fun e=>by
   by_cases h:∃ k' a,e.2=Value.ref a/\lI prog w s.heap k' a
   ·obtain⟨k',a,h1,h2⟩:=h
    refine⟨k',fun k'' a' h1' h2'=>?_⟩
    rw[h1]at h1'
    cases h1'
    exact h2'.inj h2
   ·exact⟨[],fun k' a h1 h2=>absurd ⟨k',a,h1,h2⟩ h⟩
  let g:Int×Value->List Int:=fun e=>Classical.choose (f e)
  have gs:∀ e k a,e.2=Value.ref a->lI prog w s.heap k a->k=g e:=fun e k a=>Classical.choose_spec (f e) k a
  have ge:es.toList.map g=ks:=by
   refine List.ext_getElem? fun i=>?_
   rw[List.getElem?_map,Array.getElem?_toList]
   by_cases hi:i < es.size
   ·rw[Array.getElem?_eq_getElem hi]
    obtain⟨k,a,h1,h2,h3,_⟩:=X.it i es[i] (Array.getElem?_eq_getElem hi)
    rw[h1]
    show some (g es[i])=some k
    rw[← gs es[i] k a (by rw[h2]) h3]
   ·rw[Array.getElem?_eq_none (by omega),List.getElem?_eq_none (by rw[X.len];omega)];rfl
  refine⟨(aP w S ep es).toList.map g,?_,by rw[List.length_map];exact hwl,fun i e he=>?_⟩
  ·have:=pm.map g
   rw[ge]at this;exact this
  ·obtain⟨k,a,h1,h2,h3,h4⟩:=hitem e (List.mem_of_getElem? he)
   refine⟨k,a,?_,by rw[h2],h3,h4⟩
   rw[List.getElem?_map,he]
   show some (g e)=some k
   rw[← gs e k a (by rw[h2]) h3]
 obtain⟨us,up,ul,ui⟩:=hks
 refine Calls.call_function_entry kind_sorted plain_sorted entry_sorted (args_sorted1 _) ?_
 unfold Builtin.«sorted»
 refine wpAny_bind (m:=checkCount "sorted" 1 1 _) (wpAny_pure ?_)
 refine wpAny_bind (xN (A:=A.in1) hh X hz fun h1 tk1 kept1 grown1=>?_)
 generalize hvs:(aP w S ep es).toList.map (·.2)=vs
 have vl:vs.length=es.size:=by rw[← hvs,List.length_map];exact hwl
 have T1:gM prog w h1 N us vs.toArray:=by
  refine⟨by rw[ul,List.size_toArray];exact vl.symm,fun i v e=>?_⟩
  rw[List.getElem?_toArray,← hvs,List.getElem?_map]at e
  obtain⟨e',ee,rfl⟩:=Option.map_eq_some_iff.mp e
  obtain⟨k,a,h1',h2,h3,h4⟩:=ui i e' ee
  exact⟨k,a,h1',h2,h3.at fun ob hob=>kept1 a ob hob,h4⟩
 refine wpAny_bind (wpAny_newList ?_ (by rw[vl];exact hz))
 have hoD:(h1.push (seqObj "list" vs.toArray 0)).get? h1.objs.size=some (seqObj "list" vs.toArray 0):=Heap.get?_push_size _ rfl
 have up1:∀ b ob,h1.get? b=some ob->(h1.push (seqObj "list" vs.toArray 0)).get? b=some ob:=fun b ob e=>Heap.get?_push_of_some _ e
 have hND:¬ N h1.objs.size:=fun z=>absurd (hN _ z) (Nat.not_lt.mpr (Nat.le_of_lt grown1))
 have T2:gM prog w (h1.push (seqObj "list" vs.toArray 0)) N us vs.toArray:=T1.stay fun b ob _ e=>up1 b ob e
 have hku:2<=vs.length->∀ k∈us,k≠[]:=fun h k hk'=>hk (by omega) k (up.mem_iff.mp hk')
 refine wpAny_bind (wpAny_holding (wpAny_call_entry slot_list_sort ⟨_,hoD,rfl⟩ entry_list_sort (aS3 (s:={s with heap:=h1.push (seqObj "list" vs.toArray 0),toks:=tk1}) hoD hND T2 (by rw[vl];exact h64) hku fun h2 p c hp hu ho2 kept2=>⟨_,rfl,?_⟩) (args_list_sort _)))
 refine wpAny_pure ⟨_,rfl,?_⟩
 have nN:∀ b,N b->b≠h1.objs.size:=fun b hb z=>hND (z ▸ hb)
 have hul:us.length=vs.length:=by rw[ul,vl]
 rw[← hul]at hp hu
 have hsr:=bW0 (l:=l) (up.nodup_iff.mpr X.nd) (fun x=>(up.mem_iff).trans (hm x)) hp hu
 refine q h2 tk1 h1.objs.size _ c (Nat.le_of_lt grown1) ho2 ⟨?_,fun i v e=>?_⟩ fun b ob e=>kept2 b ob (fun z=>?_) (up1 b ob (kept1 b ob e))
 ·rw[← hsr];simp
 ·rw[List.getElem?_toArray,List.getElem?_map]at e
  obtain⟨j,ej,rfl⟩:=Option.map_eq_some_iff.mp e
  have hj:j < vs.length:=by
   have:=(hp.mem_iff.mp (List.mem_of_getElem? ej))
   rw[List.mem_range]at this;omega
  obtain⟨k,a,e1,e2,e3,e4⟩:=T1.2 j vs[j] (by rw[List.getElem?_toArray];exact List.getElem?_eq_getElem hj)
  refine⟨k,a,?_,?_,e3.at (fun ob hob=>kept2 a ob (nN a e4) (up1 a ob hob)),e4⟩
  ·rw[← hsr,List.getElem?_map,ej]
   show some (us.getD j [])=some k
   rw[List.getD_eq_getElem?_getD,e1];rfl
  ·rw[List.getD_eq_getElem?_getD,List.getElem?_eq_getElem hj];exact e2
 ·exact absurd (Heap.lt_size (z ▸ e)) (Nat.not_lt.mpr (Nat.le_of_lt grown1))
end
end PySem
namespace Dv
open PySem L2 Mr
section
variable{Γ:Gm}{H H0:Hp}{σ σ0:Sg}{σV σV0:St}{i:Nat}{v:V}
theorem fD{j:Nat}{s:Sl}(hi:σ[i]? = some none)(hj:σ[j]? = some (some s)):(σV.set i (some v))[j]? = σV[j]?:=
 List.getElem?_set_ne fun z=>by subst z;rw[hi]at hj;cases hj
theorem StOk.shade(ok:StOk Γ H σ σV)(hi:σ[i]? = some none):StOk Γ H σ (σV.set i (some v)):=by
 refine⟨fun j s e=>?_,fun j l s t p n ej el m m' e1 e2=>?_,fun j s p ej m e=>?_,fun j s p ej m e=>?_,ok.keep,ok.dom,by rw[List.length_set];exact ok.len⟩
 ·rw[fD hi e];exact ok.rel j s e
 ·rw[fD hi ej]at e1
  rw[fD hi el]at e2
  exact ok.dis j l s t p n ej el m m' e1 e2
 ·rw[fD hi ej]at e;exact ok.own j s p ej m e
 ·rw[fD hi ej]at e;exact ok.par j s p ej m e
theorem StOk.nov{a:Addr}{o:HO}(ok:StOk Γ H σ σV)(h:H a=some o)(n1:∀ xs,o≠.lst xs)(n2:∀ k,o≠.dK k)(n3:∀ k,o≠.dT k):¬ kB σ σV a:=fun z=>by
 obtain⟨i,s,h1,h2,h3⟩:=z.nv
 obtain⟨p,e,ow⟩:=ok.ownAt h1 h2
 rw[h3]at e;cases e
 unfold cW at ow
 split at ow
 ·obtain⟨xs,q,_⟩:=ow
  rw[h]at q;cases q;exact n1 _ rfl
 ·obtain⟨u,ws,q,dq,_⟩:=ow
  rw[h]at q;cases q
  unfold bH8 at dq
  split at dq
  ·exact n2 _ rfl
  ·exact n3 _ rfl
  ·exact dq
 ·exact ow
theorem Step.shade(st:Step σ0 σV0 H0 σ σV H)(hi:σ[i]? = some none):Step σ0 σV0 H0 σ (σV.set i (some v)) H:=by
 refine⟨st.fr,st.dom,fun a ⟨j,s,h1,h2,h3⟩=>?_,fun a ⟨j,s,h1,h2,h3⟩=>?_,st.kp,fun j s e m=>?_,st.lt⟩
 ·rw[fD hi h1]at h3;exact st.mu a ⟨j,s,h1,h2,h3⟩
 ·rw[fD hi h1]at h3;exact st.nv a ⟨j,s,h1,h2,h3⟩
 ·obtain⟨s',e1,e2,e3,e4⟩:=st.fix j s e m
  exact⟨s',e1,e2,e3,by rw[fD hi e1];exact e4⟩
end
section
variable{K:PySem.W.Frag}{H:Hp}{C fI:Addr}{f:Str}{E:XK}{Q:Addr->Hp->Prop}
end
end Dv
namespace Dv
open PySem L2 Mr
theorem dU{σ:Sg}{σV:St}{i j:Nat}{w:Option V}{s:Sl}(hi:σ[i]? = some none)(hj:σ[j]? = some (some s)):(σV.set i w)[j]? = σV[j]?:=
 List.getElem?_set_ne fun z=>by subst z;rw[hi]at hj;cases hj
theorem StOk.shade'{Γ:Gm}{H:Hp}{σ:Sg}{σV:St}{i:Nat}{w:Option V}(ok:StOk Γ H σ σV)(hi:σ[i]? = some none):StOk Γ H σ (σV.set i w):=by
 refine⟨fun j s e=>?_,fun j l s t p n ej el m m' e1 e2=>?_,fun j s p ej m e=>?_,fun j s p ej m e=>?_,ok.keep,ok.dom,by rw[List.length_set];exact ok.len⟩
 ·rw[dU hi e];exact ok.rel j s e
 ·rw[dU hi ej]at e1
  rw[dU hi el]at e2
  exact ok.dis j l s t p n ej el m m' e1 e2
 ·rw[dU hi ej]at e;exact ok.own j s p ej m e
 ·rw[dU hi ej]at e;exact ok.par j s p ej m e
theorem Step.shade'{H H0:Hp}{σ σ0:Sg}{σV σV0:St}{i:Nat}{w:Option V}(st:Step σ0 σV0 H0 σ σV H)(hi:σ[i]? = some none):Step σ0 σV0 H0 σ (σV.set i w) H:=by
 refine⟨st.fr,st.dom,fun a ⟨j,s,h1,h2,h3⟩=>?_,fun a ⟨j,s,h1,h2,h3⟩=>?_,st.kp,fun j s e m=>?_,st.lt⟩
 ·rw[dU hi h1]at h3;exact st.mu a ⟨j,s,h1,h2,h3⟩
 ·rw[dU hi h1]at h3;exact st.nv a ⟨j,s,h1,h2,h3⟩
 ·obtain⟨s',e1,e2,e3,e4⟩:=st.fix j s e m
  exact⟨s',e1,e2,e3,by rw[dU hi e1];exact e4⟩
end Dv
namespace L2
open PySem PySem.Spec PyProof.Rows
end L2
namespace PySem
section
variable{κ:Type}[DecidableEq κ]
end
section
variable{prog:Program}{w:World}{A:Around}{κ:Type}[DecidableEq κ]{knd:KeyKind prog w κ}
end
end PySem
namespace L2
open PySem PySem.Spec PyProof.Rows
theorem jP{X:Cx}{id U:String}{x y:Str}{p p' pos pos':Pos}{e:Expr}{es:List Expr}{t:TA}{r:List V->Hp->VK->Prop}
  (hc:∀ pins s σ H vs us Q,Inv X pins σ H s->bL vs us->r vs H Q->wpAny (model X.prog X.w) X.A (call (.type U) us) (fun u s1=>wpAny (model X.prog X.w) X.A (call (.builtin id) [u]) (EP X pins σ Q) X.xe s1) X.xe s)
  (hg:Gl X x) (hm:X.mg x=none) (hv:bootBuiltins x=some (.builtin id)) (hg':Gl X y) (hm':X.mg y=none) (hv':bootBuiltins y=some (.type U)) (ha:PA X (e::es) t)
  (hn:x≠"__name__":=by decide) (hdb:(x==("__debug__":Str))=false:=by decide) (hn':y≠"__name__":=by decide) (hdb':(y==("__debug__":Str))=false:=by decide)
  (he:starEach (e::es) X.env=(false,eval e X.env)::starEach es X.env:=by rfl) (hpl:(backTo pos' (starEach es X.env)).any (·.1)=false:=by rfl)
  (hs:starEach [.Call (.Name y p') (e::es) [] pos'] X.env=(false,eval (.Call (.Name y p') (e::es) [] pos') X.env)::starEach [] X.env:=by rfl) :
  PE X (.Call (.Name x p) [.Call (.Name y p') (e::es) [] pos'] [] pos) (tCB r t):=by
 intro pins s σ H Q I h
 refine wpAny_Call_Name_kw (pL I hg hm hv (PyProof.Rows.callWith_builtin1 ?_ hs (by rfl)) hn hdb)
 rw[hs]
 (show wpAny _ _ (spliced ((false,eval (.Call (.Name y p') (e::es) [] pos') X.env)::backTo pos (starEach [] X.env))) _ _ s;refine Calls.spliced_cons (wpAny_Call_Name_kw (pL I hg' hm' hv' (PyProof.Rows.callWith_type1 ?_ he hpl) hn' hdb')))
 exact thn (ha pos' pins s σ H _ I h) fun us s1 ⟨vs,H1,I1,r1,q1⟩=>thn (hc pins s1 σ H1 vs us Q I1 r1 q1) fun u s2 h2=>Calls.spliced_nil h2
theorem aE4{X:Cx}{pins:List (Addr×Obj)}{σ:St}{H:Hp}{s:Shared}{p:Addr}{b:Bool}{xs:List V}(I:Inv X pins σ H s)(hc:X.calm=true)(h:fA H p=some (b,xs)) :
  ∃ items:List Value,bL xs items/\Nonempty (Src X.prog X.w X.A s.heap p items.toArray.size fun i v=>items.toArray[i]? = some v):=by
 cases b with
 | true=>
   obtain⟨its,r,⟨o,n,e1,e2,e3,e4⟩,_⟩:=I.list (iO h)
   exact⟨its,r,⟨Src.list (I.ok.hd hc) ⟨o,e1,e2,n,e4⟩⟩⟩
 | false=>
   obtain⟨its,r,q,_⟩:=I.tuple (eP h)
   exact⟨its,r,⟨Src.tup (I.ok.hd hc) q⟩⟩
end L2
namespace Dv
open PySem L2 Mr
end Dv
namespace L2
open PySem PySem.Spec PyProof.Rows Sx
theorem jQ{prog:Program}{w:World}:∀ {k:List Int} {us:List Value},bL (k.map V.int) us->ItemsAre (intKind prog w) k us
 | [],_,.nil=>.nil
 | i::r,_,.cons h t=>by
   obtain⟨tk,rfl⟩:=h
   exact .cons (by simp[intKind,Value.isInt]) (jQ t)
theorem zT{X:Cx}{pins:List (Addr×Obj)}{σ:St}{H:Hp}{s:Shared}{a:Addr}{k:List Int}(I:Inv X pins σ H s)(h:H a=some (.tup (k.map V.int))):lI X.prog X.w s.heap k a:=by
 obtain⟨its,r,⟨o,ho,hc,n,hd⟩,_⟩:=I.tuple (eP (cN h))
 exact⟨o,its.toArray,n,ho,hc,hd,by simpa using jQ r⟩
noncomputable def rE:List V->Hp->VK->Prop:=fun vs H Q=>∃ (p:Addr) (b:Bool) (ps:List Addr) (ks:List (List Int)),vs=[.ref p]/\fA H p=some (b,ps.map V.ref)/\ps.length=ks.length/\(∀ (i:Nat) a k,ps[i]? = some a->ks[i]? = some k->H a=some (.tup (k.map V.int))) /\
 ks.length < 4000/\(srt ks).length < 64/\(2<=(srt ks).length->∀ k∈ks,k≠[]) /\
 ∀ r (qs:List Addr),H r=none->qs.length=(srt ks).length->(∀ (i:Nat) a k,qs[i]? = some a->(srt ks)[i]? = some k->H a=some (.tup (k.map V.int)))->Q (.ref r) (upd H r (.lst (qs.map V.ref)))
theorem xR{X:Cx}(hc:X.calm=true)(hu:X.A.units+8 < cLine):∀ pins s σ H vs us Q,Inv X pins σ H s->bL vs us->rE vs H Q ->
  wpAny (model X.prog X.w) X.A (call (.type "set") us) (fun u s1=>wpAny (model X.prog X.w) X.A (call (.builtin "sorted") [u]) (EP X pins σ Q) X.xe s1) X.xe s:=by
 intro pins s σ H vs us Q I rv h
 obtain⟨p,b,ps,ks,rfl,hH,hl,hk,hn,h64,hne,q⟩:=h
 obtain⟨u,rfl,ru⟩:=rv.one
 cases ru
 obtain⟨its,r,⟨src⟩⟩:=aE4 I hc hH
 have hlen:ps.length=its.length:=by simpa using r.length
 have alive:∀ a∈ps,a < s.heap.objs.size:=fun a ha=>by
  obtain⟨i,hi,e⟩:=List.getElem_of_mem ha
  have hi':i < ks.length:=by omega
  obtain⟨o,_,_,ho,_⟩:=zT I (hk i a ks[i] (by rw[List.getElem?_eq_getElem hi,e]) (List.getElem?_eq_getElem hi'))
  exact Heap.lt_size ho
 have T0:gM X.prog X.w s.heap (· ∈ ps) ks its.toArray:=by
  refine⟨by rw[List.size_toArray];omega,fun i v e=>?_⟩
  rw[List.getElem?_toArray]at e
  have hi:i < ps.length:=by rw[hlen];exact(List.getElem?_eq_some_iff.mp e).1
  have hi':i < ks.length:=by omega
  obtain⟨v',e',rv'⟩:=r.get (i:=i) (x:=.ref ps[i]) (by rw[List.getElem?_map,List.getElem?_eq_getElem hi];rfl)
  rw[e]at e'
  cases e'
  cases rv'
  exact⟨ks[i],ps[i],List.getElem?_eq_getElem hi',rfl,zT I (hk i _ _ (List.getElem?_eq_getElem hi) (List.getElem?_eq_getElem hi')),List.getElem_mem hi⟩
 have nS:¬ s.heap.objs.size∈ps:=fun z=>absurd (alive _ z) (Nat.lt_irrefl _)
 have nI:¬ s.heap.objs.size+1∈ps:=fun z=>absurd (alive _ z) (Nat.not_lt.mpr (Nat.le_succ _))
 refine aD8 src (fun A' ha hu'=>aR5 (prog:=X.prog) (w:=X.w) (led:=cF X.w) (N:=(· ∈ ps)) (ks:=ks) (by omega) nS nI (Nat.ne_of_lt (Nat.lt_succ_self _)) hn) (fun h' hS hold=>?_) fun h' tk ⟨T1,us,X1,_,hm⟩ hkeep=>?_
 ·refine⟨T0.stay fun c ob _ e=>hold c ob e,[],⟨_,#[],0,_,hS,⟨rfl,rfl,rfl⟩,rfl,?_,?_,rfl,rfl,rfl,fun i e he=>by simp at he,.nil⟩,Nat.le_refl _,fun x=>by simp⟩
  ·refine⟨⟨3,rfl⟩,Nat.le_refl _,rfl,fun i j a b _ e=>by simp[SetTable.fresh]at e,fun i j e=>by simp[SetTable.fresh]at e,rfl,by simp[SetTable.fresh],fun i h e=>by simp at e⟩
  ·simp[SetTable.fresh]
 ·obtain⟨o,es,ep,t,Y⟩:=X1
  have hm':∀ x,x∈us↔x∈ks:=fun x=>by
   rw[hm x,List.take_of_length_le (by rw[List.size_toArray];omega)]
  have pl:us.length=(srt ks).length:=((List.perm_ext_iff_of_nodup Y.nd (xP (gD ks))).mpr fun x=>by rw[hm' x,eV]).length_eq
  have hes:es.size=(srt ks).length:=by rw[← Y.len];exact pl
  have hgr:s.heap.objs.size < h'.objs.size:=Heap.lt_size Y.ob
  refine zS (s:={s with heap:=h',toks:=tk}) (I.ok.hd hc) Y (fun a ha=>Nat.lt_trans (alive a ha) hgr) (by omega) (fun h2 k hk'=>hne (by omega) k ((hm' k).mp hk')) hm' fun h2 tk2 D vs c hD ho2 T2 keep2=>?_
  -- the addresses of what is told
  have hq:∃ qs:List Addr,vs=qs.map Value.ref/\qs.length=(srt ks).length/\∀ (i:Nat) a k,qs[i]? = some a->(srt ks)[i]? = some k->H a=some (.tup (k.map V.int)):=by
   have f:∀ v∈vs,∃ a,v=Value.ref a:=fun v hv=>by
    obtain⟨i,hi,e⟩:=List.getElem_of_mem hv
    obtain⟨_,a,_,e2,_⟩:=T2.2 i v (by rw[List.getElem?_toArray,List.getElem?_eq_getElem hi,e])
    exact⟨a,e2⟩
   have g:∀ vs:List Value,(∀ v∈vs,∃ a,v=Value.ref a)->∃ qs:List Addr,vs=qs.map Value.ref:=by
    intro vs
    induction vs with
    | nil=>intro _;exact⟨[],rfl⟩
    | cons v r ih=>
      intro hv
      obtain⟨a,rfl⟩:=hv v List.mem_cons_self
      obtain⟨qs,rfl⟩:=ih fun x hx=>hv x (List.mem_cons_of_mem _ hx)
      exact⟨a::qs,rfl⟩
   obtain⟨qs,rfl⟩:=g vs f
   have l1:qs.length=(srt ks).length:=by have:=T2.1;simpa using this.symm
   refine⟨qs,rfl,l1,fun i a k ea ek=>?_⟩
   obtain⟨k',a',e1,e2,e3,e4⟩:=T2.2 i (.ref a) (by rw[List.getElem?_toArray,List.getElem?_map,ea];rfl)
   rw[ek]at e1
   cases e1
   cases e2
   obtain⟨j,hj,ej⟩:=List.getElem_of_mem e4
   have hj':j < ks.length:=by omega
   have hHa:=hk j a ks[j] (by rw[List.getElem?_eq_getElem hj,ej]) (List.getElem?_eq_getElem hj')
   have t1:lI X.prog X.w h2 ks[j] a:=(zT I hHa).at fun ob hob=>keep2 a ob (hkeep a ob hob)
   rw[e3.inj t1];exact hHa
  obtain⟨qs,rfl,ql,qh⟩:=hq
  have hD':s.heap.objs.size<=D:=Nat.le_trans (Nat.le_of_lt hgr) hD
  refine⟨.ref D,upd H D (.lst (qs.map V.ref)),?_,rfl,q D qs (I.hok.fresh hD') ql qh⟩
  refine I.laid (t':=tk2) (fun b ob e=>keep2 b ob (hkeep b ob e)) hD' ⟨by rw[List.length_map,ql,sizeLine_eq];omega,qs.map Value.ref,c,?_,ho2⟩
  have vr:∀ l:List Addr,bL (l.map V.ref) (l.map Value.ref):=by
   intro l
   induction l with
   | nil=>exact .nil
   | cons a r ih=>exact .cons rfl ih
  exact vr qs
end L2
namespace L2
open PySem PySem.Spec PyProof.Rows Sx
noncomputable def cF3(r:V->List V->Hp->VK->Prop)(to:TE)(t:TA):TE:=fun σ H Q=>to σ H fun x H1=>(∃ p xs,x=.ref p/\H1 p=some (.tup xs))/\t σ H1 fun xs H2=>r x xs H2 Q
section
variable{X:Cx}{o e:Expr}{es:List Expr}{to:TE}{t:TA}{name:Str}{apos cpos:Pos}{id:String}{r:V->List V->Hp->VK->Prop}
theorem qD(slot:Slot "tuple" name id)(hty:typeOf (.builtin id)=pure (.type "method_descriptor"))(hm:MtR X id r)(ho:PE X o to)(ha:PA X (e::es) t)
  (hbase:attributeBase o name X.env (eval o X.env)=eval o X.env:=by rfl)
  (hfew:((backTo cpos (starEach (e::es) X.env)).all (fun x=>!x.1)&&(backToKw cpos (keywordEach [] X.env)).all (fun x=>x.1.isSome)&&decide ((e::es).length+([]:List Keyword).length+(if([]:List Keyword).isEmpty then 0 else 1) < 30))=true:=by rfl)
  (hline:(apos.endLine==cpos.line)=true:=by rfl) (hs:starEach (e::es) X.env=(false,eval e X.env)::starEach es X.env:=by rfl) (hplain:(backTo cpos (starEach es X.env)).any (·.1)=false:=by rfl) :
  PE X (.Call (.Attribute o name apos) (e::es) [] cpos) (cF3 r to t):=by
 intro pins s σ H Q I h
 refine wpAny_Call_method_late hbase hfew hline rfl (thn (ho pins s σ H _ I h) fun v s1 ⟨x,H1,I1,r1,⟨p,xs,ex,hp⟩,q1⟩=>?_)
 subst ex
 have ev:v=.ref p:=r1
 subst ev
 obtain⟨_,its,_,⟨ob,e1,c1,_⟩,⟨ob2,e2,d2⟩⟩:=(show cT X.prog X.w H1 s1.heap p (.tup xs)from I1.hok p _ hp)
 refine⟨"tuple",id,F.plainAttrs_tuple,slot,hty,⟨ob,e1,c1⟩,fun a ea=>?_,?_⟩
 ·cases ea;exact⟨ob2,e2,d2⟩
 ·have hA:=ha cpos pins s1 σ H1 _ I1 q1
  rw[hs]at hA ⊢
  refine Calls.callWith_builtin (by show(false||(backTo cpos (starEach es X.env)).any (·.1))=false;rw[hplain]<;>rfl) (Calls.evalArgs_plain ?_)
  exact thn hA fun us s2 ⟨vs,H2,I2,r2,q2⟩=>hm pins s2 σ H2 (.ref p) vs _ us Q I2 r1 r2 q2
end
theorem xS:∀ (x y:List Int),HT.lexLt x y=tlt x y
 | [],[]=>rfl
 | [],_::_=>rfl
 | _::_,[]=>rfl
 | a::x,b::y=>by
   rw[HT.lexLt_cons,xS x y];rfl
noncomputable def cF4:R2:=fun x y H Q=>(∃ i j,x=.int i/\y=.int j/\Q (.bl (decide (i < j))) H)\/∃ a b ns ms,x=.ref a/\y=.ref b/\H a=some (.tup (ns.map V.int))/\H b=some (.tup (ms.map V.int))/\Q (.bl (tlt ns ms)) H
theorem bW1{X:Cx}(hu:X.A.units < cLine):OpR X (compareOp .Lt) cF4:=by
 intro pins s σ H x y v u Q I rx ry h
 rcases h with⟨i,j,rfl,rfl,q⟩ | ⟨a,b,ns,ms,rfl,rfl,ha,hb,q⟩
 ·exact cA4 pins s σ H _ _ v u Q I rx ry ⟨i,j,rfl,rfl,q⟩
 ·exact bR3 hu pins s σ H _ _ v u Q I rx ry ⟨a,b,ns,ms,rfl,rfl,SqT.of ha,SqT.of hb,by rw[xS];exact q⟩
end L2
namespace Dv
open PySem L2 Mr Sx
noncomputable def pJ:List D->Option (List Int)
 | []=>some []
 | .int i::r=>(pJ r).bind fun l=>some (i::l)
 | _::_=>none
theorem jR:∀ {l:List D} {zs:List Int},pJ l=some zs->l=zs.map D.int
 | [],_,h=>by cases h;rfl
 | .int s::r,_,h=>by
   obtain⟨l,e1,e2⟩:=aC h
   cases e2
   rw[jR e1];rfl
 | .non::_,_,h=>by cases h
 | .str _::_,_,h=>by cases h
 | .bl _::_,_,h=>by cases h
 | .tup _::_,_,h=>by cases h
 | .lst _::_,_,h=>by cases h
 | .dic _ _::_,_,h=>by cases h
theorem xT(zs:List Int):pJ (zs.map D.int)=some zs:=by
 induction zs with
 | nil=>rfl
 | cons b r ih=>show(pJ (r.map D.int)).bind _=_;rw[ih];rfl
noncomputable abbrev tI(k:List Int):D:=.tup (k.map D.int)
noncomputable def zU:List D->Option (List (List Int))
 | []=>some []
 | .tup k::r=>(pJ k).bind fun k'=>(zU r).bind fun l=>some (k'::l)
 | _::_=>none
theorem aE5:∀ {l:List D} {zs:List (List Int)},zU l=some zs->l=zs.map tI
 | [],_,h=>by cases h;rfl
 | .tup k::r,_,h=>by
   obtain⟨k',e0,h⟩:=aC h
   obtain⟨l,e1,e2⟩:=aC h
   cases e2
   rw[aE5 e1,jR e0];rfl
 | .non::_,_,h=>by cases h
 | .str _::_,_,h=>by cases h
 | .bl _::_,_,h=>by cases h
 | .int _::_,_,h=>by cases h
 | .lst _::_,_,h=>by cases h
 | .dic _ _::_,_,h=>by cases h
theorem xU(zs:List (List Int)):zU (zs.map tI)=some zs:=by
 induction zs with
 | nil=>rfl
 | cons b r ih=>show(pJ (b.map D.int)).bind (fun k'=>(zU (r.map tI)).bind _)=_;rw[ih,xT];rfl
theorem cC9{H:Hp}{k:List Int}{v:V}(h:Rp H (tI k) v):∃ a,v=.ref a/\H a=some (.tup (k.map V.int)):=by
 cases h with
 | tup h r=>rw[r.ints_inv]at h;exact⟨_,rfl,h⟩
theorem bE1{H:Hp}:∀ {ks:List (List Int)} {xs:List V},Rps H (ks.map tI) xs->∃ ps:List Addr,xs=ps.map V.ref/\ps.length=ks.length/\∀ (i:Nat) a k,ps[i]? = some a->ks[i]? = some k->H a=some (.tup (k.map V.int))
 | [],_,h=>by cases h;exact⟨[],rfl,rfl,fun i a k e=>by simp at e⟩
 | k::ks,_,h=>by
   rw[List.map_cons]at h
   cases h with
   | cons a t=>
     obtain⟨p,rfl,hp⟩:=cC9 a
     obtain⟨ps,rfl,hl,hk⟩:=bE1 t
     refine⟨p::ps,rfl,by simp[hl],fun i a k' ea ek=>?_⟩
     cases i with
     | zero=>simp at ea ek;subst ea ek;exact hp
     | succ i=>exact hk i a k' (by simpa using ea) (by simpa using ek)
theorem aS5{H:Hp}:∀ {ks:List (List Int)} {ps:List Addr},ps.length=ks.length->(∀ (i:Nat) a k,ps[i]? = some a->ks[i]? = some k->H a=some (.tup (k.map V.int)))->Rps H (ks.map tI) (ps.map V.ref)
 | [],[],_,_=>.nil
 | [],_::_,h,_=>by simp at h
 | _::_,[],h,_=>by simp at h
 | k::ks,p::ps,h,hk=>.cons (.tup (hk 0 p k rfl rfl) (lL k)) (aS5 (by simpa using h) fun i a k' ea ek=>hk (i+1) a k' (by simpa using ea) (by simpa using ek))
open Classical in
noncomputable def iJ:FN:=fun ds=>match ds with
 | [d]=>(bL9 d).bind fun x=>(zU x.2).bind fun ks=>if ks.length < 4000/\(srt ks).length < 64/\(2<=(srt ks).length->∀ k∈ks,k≠[])then some (.own (.lst ((srt ks).map tI)))else none
 | _=>none
theorem zV:aY1 rE iJ:=by
 intro H ds vs Q res vw e k
 unfold iJ at e
 split at e
 ·obtain⟨⟨b,l⟩,e1,e⟩:=aC e
  obtain⟨ks,e2,e⟩:=aC e
  dsimp only at e2
  split at e
  ·rename_i hz
   cases e
   cases vw with
   | cons a t=>
     cases t
     obtain⟨p,xs,rfl,h1,h2⟩:=bC5 a e1
     rw[aE5 e2]at h2
     obtain⟨ps,rfl,hl,hk⟩:=bE1 h2
     refine⟨p,b,ps,ks,rfl,h1,hl,hk,hz.1,hz.2.1,hz.2.2,fun r qs hr ql qk=>?_⟩
     have sm:Same H (upd H r (.lst (qs.map V.ref))):=bS hr
     exact k _ _ sm ⟨r,rfl,hr,_,aT,aS5 ql fun i a k' ea ek=>sm _ _ (qk i a k' ea ek)⟩
  ·cases e
 ·cases e
theorem jS{n:Nat}{σ:Sg}{gs:DGs}{z:Str}{K:Sg->Prop}:OK1 (zA n gs (.str z) σ) K=(z.length=n/\OK1 (gs (gY z) σ) K):=by
 show OK1 (if z.length=n then gs (gY z) σ else none) K=_
 rw[bI]
noncomputable def ltA:F2:=fun d e=>match d,e with
 | .int i,.int j=>some (.val (.bl (decide (i < j))))
 | .tup x,.tup y=>(pJ x).bind fun ns=>(pJ y).bind fun ms=>some (.val (.bl (tlt ns ms)))
 | _,_=>none
theorem bK7:rZ cF4 ltA:=by
 intro H d1 d2 x y Q res v1 v2 e k
 unfold ltA at e
 split at e
 ·cases e
  rw[cX v1,cX v2]
  exact .inl ⟨_,_,rfl,rfl,k _ _ (.refl _) (.bl _)⟩
 ·obtain⟨ns,e1,e⟩:=aC e
  obtain⟨ms,e2,e⟩:=aC e
  cases e
  obtain⟨p,xs,rfl,h1,r1⟩:=eG v1
  obtain⟨q,ys,rfl,h2,r2⟩:=eG v2
  rw[jR e1]at r1
  rw[jR e2]at r2
  rw[r1.ints_inv]at h1
  rw[r2.ints_inv]at h2
  exact .inr ⟨p,q,ns,ms,rfl,rfl,h1,h2,k _ _ (.refl _) (.bl _)⟩
 ·cases e
theorem xV{i j:Int}{K:Res->Prop}:OK1 (ltA (.int i) (.int j)) K=K (.val (.bl (decide (i < j)))):=rfl
noncomputable abbrev FT:=List D->D->Option D
noncomputable def cF5(r:V->List V->Hp->L2.VK->Prop)(f:FT):Prop:=∀ H l xs e p y Q d,H p=some (.tup xs)->Rps H l xs->Vw H e y->f l e=some d->(∀ v,Rp H d v->Q v H)->r (.ref p) [y] H Q
noncomputable def dMT(f:FT)(ro ra:DE):DE:=fun σ=>(ro σ).bind fun x=>match x.1 with
 | .val (.tup l)=>(ra x.2).bind fun y=>(rd y.2 y.1).bind fun e=>(f l e).bind fun d=>some (.val d,y.2)
 | _=>none
theorem aJ1{X:Cx}{e:Expr}{r:V->List V->Hp->L2.VK->Prop}{f:FT}{ro ra:DE}(hp:cF5 r f)(h:∀ Γ,PE X e (cF3 r (dTE Γ ro) (dTA Γ (aD ra aW)))):GE X e (dMT f ro ra):=.mk fun Γ=>peW (h Γ) fun σV H Q ⟨σ,ok,res,σ',e,k⟩=>by
 have e0:=e
 clear e
 obtain⟨⟨x,σ1⟩,e1,f1⟩:=aC e0
 clear e0
 dsimp only at f1
 have hx:∃ l,x=.val (.tup l):=by
  cases x with
  | val dd=>
    cases dd with
    | tup l=>exact⟨l,rfl⟩
    | _=>cases f1
  | _=>cases f1
 obtain⟨l,rfl⟩:=hx
 refine⟨σ,ok,_,σ1,e1,fun v1 H1 ok1 r1 st1 _=>?_⟩
 obtain⟨⟨y,σ2⟩,e2,f2⟩:=aC f1
 obtain⟨d2,e3,f3⟩:=aC f2
 obtain⟨d,e4,f4⟩:=aC f3
 cases f4
 dsimp only at e2 e3
 have r1':Rp H1 (.tup l) v1:=r1
 obtain⟨p,xs,rfl,h1,h2⟩:=eG (.inl r1')
 refine⟨⟨p,xs,rfl,h1⟩,σ1,ok1,[y],σ2,?_,fun vs H2 ok2 r2 st2 _=>?_⟩
 ·show((_:Option _).bind _)=_
  rw[e2];rfl
 ·cases r2 with
  | cons ry t _=>
    cases t
    have x2:=st2.ext ok1
    refine hp H2 l xs d2 p _ Q d (x2.tup _ _ h1) (h2.mono x2) (ry.vw ok2 e3) e4 fun v rv=>?_
    exact k v H2 ok2 rv (st1.trans st2) fF
theorem aS6{σ:Sg}{f:FT}{ro ra:DE}{Q:Res->Sg->Prop}:RE (dMT f ro ra) σ Q=RE ro σ fun x σ1=>OK1 (match x with | .val (.tup l)=>some l | _=>none) fun l=>RE ra σ1 fun y σ2=>RD σ2 y fun e=>OK1 (f l e) fun d=>Q (.val d) σ2:=by
 unfold RE RD dMT
 simp only[aJ]
 congr 1
 funext x
 obtain⟨x,σ1⟩:=x
 cases x with
 | val d=>
   cases d with
   | tup l=>simp only[aJ];rfl
   | _=>rfl
 | _=>rfl
end Dv
namespace L2
theorem xW{A:PySem.Around}{k:Nat}(hr:Room k A):A.units+8 < PySem.cLine:=by have:=hr.un;omega
end L2
namespace PySem.SeqAt
open PySem MeetsSeq MeetsSeq2 MeetsSeq3 SeqRoads2
theorem kL{M:Model}{A:Around}{E:Value->Shared->Prop}{s:Shared}{β:Type}(lo hi:Nat)(f:Nat->β->Sem (ForInStep β))(I:Nat->β->Shared->Prop)(Q:β->Shared->Prop)
  (turn:∀ i b s,lo<=i->i < hi->I i b s->wpAny M A (f i b) (fun r s'=>match r with | .yield b'=>I (i+1) b' s' | .done b'=>Q b' s') E s)
  (fin:∀ b s,I (max lo hi) b s->Q b s) (b:β) (h:I lo b s):wpAny M A (forIn [lo:hi] b f) Q E s:=by
 rw[Std.Legacy.Range.forIn_eq_forIn_range']
 refine wpAny_forIn_list f (fun l b s=>∃ i,lo<=i/\i<=max lo hi/\l=List.range' i (max lo hi-i)/\I i b s) Q ?_ ?_ _ b ⟨lo,Nat.le_refl _,by omega,?_,h⟩
 ·rintro x eE b s ⟨i,h1,h2,e,hI⟩
  cases e2:max lo hi-i with
  | zero=>rw[e2]at e;simp at e
  | succ m=>
    rw[e2,List.range'_succ]at e
    obtain⟨rfl,rfl⟩:=List.cons.inj e
    refine L2.thn (turn x b s h1 (by omega) hI) fun r s' hr=>?_
    cases r with
    | yield b'=>exact⟨x+1,by omega,by omega,by rw[show max lo hi-(x+1)=m by omega],hr⟩
    | done b'=>exact hr
 ·rintro b s ⟨i,h1,h2,e,hI⟩
  have:i=max lo hi:=by
   have:=congrArg List.length e
   simp at this
   omega
  subst this
  exact fin b s hI
 ·show List.range' lo ((hi-lo+1-1) / 1) 1=_
  rw[Nat.div_one,show hi-lo+1-1=max lo hi-lo by omega]
theorem tuple_indexAt(l:Addr)(items:Array Value)(n:Nat)(dd:Option Addr)(sl:Array (Option Value))(x:Value)(e:Value->Bool)(j:Nat)(hj:j < items.size)(hb:∀ m (hm:m < items.size),m < j->e items[m]=false)(ha:e items[j]=true) :
  Meets (Builtin.«tuple.index» ⟨[.ref l,x],[]⟩)
   (fun A R s=>s.heap.get? l=some {cls:=.type "tuple",dict:=dd,data:=.seq items n,slots:=sl}/\(∀ y,y∈items->EqAt A.in1 s y x (e y))/\R (.ok (.ret (.int j s.toks))) {s with toks:=s.toks+1}):=
 .of_wp fun prog w A R s h=>by
  obtain⟨hp,g,d,tk,os⟩:=s;obtain⟨hl,he,h⟩:=h
  wp_walk using wpAny_loadPart' hl,kL _ _ _ (fun i (b:Option (PySem.Fin)×PUnit) s'=>s'=⟨hp,g,d,tk,os⟩/\b=(none,⟨⟩)/\i<=j) _
  case turn=>
   rintro i b s' _ hi ⟨rfl,rfl,hij⟩
   have hi':i < items.size:=by omega
   rw[Array.getElem?_eq_getElem hi']
   refine wpAny_bind (he _ (Array.getElem_mem hi') prog w _ _ ?_)
   rcases Nat.lt_or_eq_of_le hij with l | rfl
   ·rw[hb i hi' l]
    wp_walk
    exact⟨rfl,rfl,l⟩
   ·rw[ha]
    wp_walk
    exact⟨_,rfl,h⟩
  case fin=>
   rintro b s' ⟨_,_,hl⟩
   omega
  case h=>exact⟨rfl,rfl,Nat.zero_le _⟩
end PySem.SeqAt
namespace L2
open PySem PySem.Spec PyProof.Rows Sx
theorem jT(a b:Value):argsOk "tuple.index" ⟨[a,b],[]⟩:=by
 unfold argsOk;rw[signature?_of (id:="tuple.index") (n:=['x','e','d','n','i']) (o:=['e','l','p','u','t']) (by kernel_rfl) F.owner_tuple];kernel_rfl
theorem bA1{zs:List V}{us:List Value}(h:bL zs us){i:Nat}{x:V}(e:zs[i]? = some x):∃ u,us[i]? = some u/\dN x u:=by
 induction h generalizing i with
 | nil=>simp at e
 | cons a t ih=>
   cases i with
   | zero=>simp at e;subst e;exact⟨_,rfl,a⟩
   | succ i=>exact ih (by simpa using e)
noncomputable def aS7:V->List V->Hp->VK->Prop:=fun x vs H Q=>∃ (l:Addr) (zs:List Str) (z:Str),x=.ref l/\vs=[.str z]/\H l=some (.tup (zs.map V.str))/\z∈zs/\Q (.int (zs.idxOf z:Nat)) H
theorem fR{X:Cx}:MtR X "tuple.index" aS7:=by
 intro pins s σ H x vs v us Q I rx rv h
 obtain⟨l,zs,z,rfl,rfl,hH,hz,q⟩:=h
 cases rx
 obtain⟨u,rfl,ru⟩:=rv.one
 obtain⟨t,rfl⟩:=ru
 obtain⟨_,its,r,⟨⟨oc,od,oda,sl⟩,e,c,n,d⟩,_⟩:=(show cT X.prog X.w H s.heap l (.tup (zs.map V.str))from I.hok l _ hH)
 dsimp only at c d
 subst c d
 have hj:zs.idxOf z < zs.length:=List.idxOf_lt_length_iff.mpr hz
 have hlen:its.length=zs.length:=by
  have:=r.length
  simpa using this.symm
 have at_:∀ m (hm:m < its.toArray.size),∃ (hm':m < zs.length) (t':Tok),its.toArray[m]=.str zs[m] t':=fun m hm=>by
  have hm2:m < its.length:=by simpa using hm
  have hm':m < zs.length:=by omega
  obtain⟨u,e1,e2⟩:=bA1 (i:=m) r (by rw[List.getElem?_map,List.getElem?_eq_getElem hm'];rfl)
  obtain⟨t',rfl⟩:=e2
  rw[List.getElem?_eq_getElem hm2]at e1
  exact⟨hm',t',by simpa using Option.some.inj e1⟩
 refine call_meets F.slot_tuple_index ⟨_,e,rfl⟩ F.entry_tuple_index (jT _ _) (PySem.SeqAt.tuple_indexAt l its.toArray n od sl (.str z t) (isZ z) (zs.idxOf z) (by simp;omega) (fun m hm hlt=>?_) ?_) ⟨e,fun y hy=>?_,?_⟩
 ·obtain⟨hm',t',e'⟩:=at_ m hm
  rw[e']
  show(zs[m]==z)=false
  have h:=List.not_of_lt_findIdx (p:=(· == z)) (xs:=zs) hlt
  simpa using h
 ·obtain⟨hm',t',e'⟩:=at_ (zs.idxOf z) (by simp;omega)
  rw[e']
  show(zs[zs.idxOf z]==z)=true
  simp
 ·obtain⟨y',t',rfl⟩:=aM6 r y (by simpa using hy)
  exact fun prog w E Q h=>eqBool_str h
 ·exact⟨.int _,H,I.tok _,⟨_,rfl⟩,q⟩
end L2
namespace Dv
open PySem L2 Mr Sx
noncomputable def bA2:FT:=fun l e=>match e with
 | .str z=>(qW l).bind fun zs=>if z∈zs then some (.int (zs.idxOf z:Nat))else none
 | _=>none
theorem iK:cF5 aS7 bA2:=by
 intro H l xs e p y Q d hp r v2 e1 k
 unfold bA2 at e1
 split at e1
 ·obtain⟨zs,e2,e1⟩:=aC e1
  split at e1
  ·rename_i hz
   cases e1
   rw[gW v2]
   rw[qX e2]at r
   rw[r.strs_inv]at hp
   exact⟨p,zs,_,rfl,rfl,hp,hz,k _ (.int _)⟩
  ·cases e1
 ·cases e1
theorem aS8{zs:List Str}{z:Str}{K:D->Prop}:OK1 (bA2 (zs.map D.str) (.str z)) K=(z∈zs/\K (.int (zs.idxOf z:Nat))):=by
 show OK1 ((qW (zs.map D.str)).bind _) K=_
 rw[wT]
 show OK1 (if _ then _ else none) K=_
 rw[bI];rfl
end Dv
namespace PySem
open Sx L2
structure USet(h:Heap)(S:Addr)(led:Bool)(o:Obj)(es:Array (Int×Value))(ep:Nat)(t:SetTable):Prop where
 ob:h.get? S=some o
 ex:o.ExactSet
 dt:o.data=.set es ep t
 tk:TOk t (es.toList.map (·.1))
 ful:t.place.size*5 < t.mask*3
 ld:t.led=led
 pl:t.plain=true
section
variable{prog:Program}{w:World}{A:Around}{E:Value->Shared->Prop}{s:Shared}{S I:Addr}{led:Bool}{o:Obj}{es:Array (Int×Value)}{ep:Nat}{t:SetTable}
theorem USet.fits(X:USet s.heap S led o es ep t):t.fits es.size=true:=X.tk.fits (by simp)
theorem USet.state(X:USet s.heap S led o es ep t){Q:(Array (Int×Value)×Nat×SetTable)->Shared->Prop}(h:Q (es,ep,t) s):wpAny (model prog w) A (setState S) Q E s:=
 wpAny_setState_of X.ob X.dt X.fits h
theorem bW2(X:USet s.heap S (cF w) o es ep t){Q:Value->Shared->Prop}(q:Q (.ref s.heap.objs.size) {s with heap:=s.heap.push (kK 0 0 es.size ep S)}):wpAny (model prog w) A (pyIter (.ref S)) Q E s:=by
 have hT:s.TypeIs (.ref S) "set":=⟨o,X.ob,X.ex.1⟩
 refine wpAny_pyIter_slot hT F.slot_set_iter (wpAny_call_entry F.slot_set_iter hT iU ?_ (F.args_set_iter_1 _))
 show wpAny _ _ (Builtin.Frozenset.sizeOf S >>= _) _ _ s
 unfold Builtin.Frozenset.sizeOf
 refine wpAny_bind (wpAny_bind (wpAny_setEntries_of X.ob X.dt X.fits (wpAny_pure ?_)))
 unfold setDrawn
 refine wpAny_bind (wpAny_bind (X.state ?_))
 unfold setsByText
 refine wpAny_bind (wpAny_bind (wpAny_askSetting (wpAny_pure ?_)))
 refine wpAny_pure ?_
 have hd:(!t.plain&&decide (es.size > 1))=false:=by rw[X.pl];rfl
 dsimp only
 rw[if_neg (fun h=>?_)]
 ·refine wpAny_bind (wpAny_pure ?_)
  refine wpAny_bind (wpAny_setEpoch_of X.ob X.dt X.fits ?_)
  unfold newFields
  refine wpAny_bind (wpAny_newObj_type ?_)
  exact wpAny_pure ⟨_,rfl,"set_iterator",_,⟨_,Heap.get?_push_size _ rfl,rfl⟩,dM.lookup,q⟩
 ·rw[Bool.and_eq_true]at h
  exact Bool.noConfusion (hd.symm.trans h.2)
theorem xX(X:USet s.heap S (cF w) o es ep t){i slot:Nat}(hsl:w.params.followText "set-order"=false->SetTable.below t.place slot=i){Q:Option (Value×Nat)->Shared->Prop}
  (q1:∀ e next,(aP w S ep es)[i]? = some e->(w.params.followText "set-order"=false->SetTable.below t.place next=i+1)->Q (some (e.2,next)) s) (q2:(aP w S ep es)[i]? = none->Q none s):wpAny (model prog w) A (setNext S slot i ep) Q E s:=by
 unfold setNext
 refine wpAny_bind (X.state ?_)
 unfold setsByText
 refine wpAny_bind (wpAny_bind (wpAny_askSetting (wpAny_pure ?_)))
 dsimp only
 by_cases hb:w.params.followText "set-order"=true
 ·rw[if_pos (show(model prog w).w.params.followText "set-order"=true from hb)]
  simp only[bne_self_eq_false,Bool.false_eq_true,if_false]
  unfold setWalk
  refine wpAny_bind (wpAny_bind (X.state ?_))
  unfold setsByText
  refine wpAny_bind (wpAny_bind (wpAny_askSetting (wpAny_pure ?_)))
  dsimp only
  rw[if_pos (show(model prog w).w.params.followText "set-order"=true from hb)]
  refine wpAny_bind (wpAny_askSetting (wpAny_pure ?_))
  have ew:aP w S ep es=pickOrder (w.params.setOrder S ep) es:=by unfold aP;rw[if_pos hb]
  show wpAny _ _ (pure ((pickOrder (w.params.setOrder S ep) es)[i]?.map fun e=>(e.2,slot))) _ _ _
  refine wpAny_pure ?_
  rw[← ew]
  cases hq:(aP w S ep es)[i]? with
  | none=>exact q2 hq
  | some e=>exact q1 e slot hq fun z=>by rw[hb]at z;cases z
 ·have hb':w.params.followText "set-order"=false:=by simpa using hb
  have hbelow:=hsl hb'
  have ew:aP w S ep es=es:=by unfold aP;rw[if_neg hb]
  have hdr:(!t.plain&&decide (es.size > 1))=false:=by rw[X.pl];rfl
  have hled:t.led=true:=by rw[X.ld];unfold cF;rw[hb'];rfl
  rw[if_neg (show ¬ ((model prog w).w.params.followText "set-order"=true)from hb)]
  refine wpAny_ite_split (fun h=>absurd (hdr.symm.trans h) Bool.false_ne_true) fun _=>?_
  refine wpAny_bind ?_
  have hml:wpAny (model prog w) A (if(!t.led && !es.isEmpty)=true then unsupported "set:maker-not-led" else pure ()) (fun _ s'=>s'=s) E s:=by
   rw[hled];simp only[Bool.not_true,Bool.false_and,Bool.false_eq_true,if_false]
   exact wpAny_pure rfl
  refine wpAny_mono hml (fun _ s' e'=>?_) fun _ _ z=>z
  subst e'
  rw[hbelow]
  rw[ew]at q1 q2
  have hsz:t.place.size=es.size:=by have:=X.tk.len;simpa using this
  cases hq:es[i]? with
  | none=>exact wpAny_pure (q2 hq)
  | some e=>
    have hlt:i < t.place.size:=by rw[hsz];exact(Array.getElem?_eq_some_iff.mp hq).1
    have ep':t.place[i]? = some t.place[i]:=Array.getElem?_eq_getElem hlt
    rw[ep']
    refine wpAny_pure (q1 e _ hq fun _=>?_)
    have c:=dS X.tk.ri (t.place[i]+1)
    have h1:i < SetTable.below t.place (t.place[i]+1):=by
     refine Nat.lt_of_not_le fun z=>?_
     have:=c.hi i _ z ep'
     omega
    have h2:SetTable.below t.place (t.place[i]+1)<=i+1:=by
     refine Nat.le_of_not_lt fun z=>?_
     have hl2:i+1 < t.place.size:=Nat.lt_of_lt_of_le z c.le
     have e2:t.place[i+1]? = some t.place[i+1]:=Array.getElem?_eq_getElem hl2
     have:=c.lo (i+1) _ z e2
     have:=X.tk.ri i (i+1) _ _ (Nat.lt_succ_self _) ep' e2
     omega
    omega
theorem USet.ne(X:USet s.heap S (cF w) o es ep t){slot i n:Nat}(ho:s.heap.get? I=some (kK slot i n ep S)):S≠I:=fun z=>by
 have h1:=X.ob
 rw[z,ho]at h1
 cases h1
 exact absurd X.dt (by simp)
theorem bW3(X:USet s.heap S (cF w) o es ep t){i:Nat}(hi:pI w s.heap I S es ep t i){Q:Option Value->Shared->Prop}{e:Int×Value}(he:(aP w S ep es)[i]? = some e)
  (q:∀ h',pI w h' I S es ep t (i+1)->(∀ b ob,b≠I->s.heap.get? b=some ob->h'.get? b=some ob)->Q (some e.2) {s with heap:=h'}):wpAny (model prog w) A (pyNext (.ref I)) Q E s:=by
 obtain⟨slot,ho,hsl⟩:=hi
 have hT:s.TypeIs (.ref I) "set_iterator":=⟨_,ho,rfl⟩
 unfold pyNext
 refine wpAny_bind (wpAny_attempt (wpAny_callSpecial?_slot (name:=Str.ofString "__next__") hT dM (wpAny_call_entry dM hT jO ?_ (lR _))))
 show wpAny _ _ (fieldsOf (.ref I) >>= _) _ _ s
 unfold fieldsOf
 refine wpAny_bind (wpAny_bind (wpAny_load ho (wpAny_pure ?_)))
 dsimp only
 refine wpAny_bind (wpAny_setEntries_of X.ob X.dt X.fits ?_)
 simp only[bne_self_eq_false,Bool.false_eq_true,if_false,Int.toNat_natCast]
 refine wpAny_bind (xX X hsl (fun e' next he' hnx=>?_) fun hn=>?_)
 ·rw[he]at he'
  cases he'
  dsimp only
  refine wpAny_bind (wpAny_setField ho rfl (by simp) ?_)
  have g1:(s.heap.update I (fun ob=>ob.mapFields (·.setIfInBounds 0 (rawInt next)))).get? I=some (kK next i es.size ep S):=by
   rw[Heap.get?_update_self _ ho rfl];simp[Obj.mapFields,rawInt]
  refine wpAny_bind (wpAny_setField (s:={s with heap:=s.heap.update I (fun ob=>ob.mapFields (·.setIfInBounds 0 (rawInt next)))}) g1 rfl (by simp) ?_)
  have g2:((s.heap.update I (fun ob=>ob.mapFields (·.setIfInBounds 0 (rawInt next)))).update I (fun ob=>ob.mapFields (·.setIfInBounds 1 (rawInt ((i:Int)+1))))).get? I=some (kK next (i+1) es.size ep S):=by
   rw[Heap.get?_update_self _ g1 rfl];simp[Obj.mapFields,rawInt]
  refine wpAny_pure ⟨_,rfl,wpAny_pure (q _ ⟨next,g2,hnx⟩ fun b ob hb e2=>?_)⟩
  exact(Heap.get?_update_other _ _ (Ne.symm hb)).trans ((Heap.get?_update_other _ _ (Ne.symm hb)).trans e2)
 ·rw[he]at hn;cases hn
theorem bW4(hh:A.handled=none)(X:USet s.heap S (cF w) o es ep t){i:Nat}(hi:pI w s.heap I S es ep t i){Q:Option Value->Shared->Prop}(he:(aP w S ep es)[i]? = none)
  (q:∀ h',(∀ b ob,b≠I->s.heap.get? b=some ob->h'.get? b=some ob)->Q none {s with heap:=h'}):wpAny (model prog w) A (pyNext (.ref I)) Q E s:=by
 obtain⟨slot,ho,hsl⟩:=hi
 have hT:s.TypeIs (.ref I) "set_iterator":=⟨_,ho,rfl⟩
 unfold pyNext
 refine wpAny_bind (wpAny_attempt (wpAny_callSpecial?_slot (name:=Str.ofString "__next__") hT dM (wpAny_call_entry dM hT jO ?_ (lR _))))
 show wpAny _ _ (fieldsOf (.ref I) >>= _) _ _ s
 unfold fieldsOf
 refine wpAny_bind (wpAny_bind (wpAny_load ho (wpAny_pure ?_)))
 dsimp only
 refine wpAny_bind (wpAny_setEntries_of X.ob X.dt X.fits ?_)
 simp only[bne_self_eq_false,Bool.false_eq_true,if_false,Int.toNat_natCast]
 refine wpAny_bind (xX X hsl (fun e' next he' hnx=>?_) fun hn=>?_)
 ·rw[he]at he';cases he'
 ·dsimp only
  refine wpAny_bind (wpAny_setField ho rfl (by simp) ?_)
  show wpAny _ _ (newExc (.type "StopIteration") [] >>= _) _ _ _
  refine wpAny_bind ?_
  simp only[newExc,newTuple]
  refine wpAny_bind (wpAny_newObj_type ?_ (by size_fits))
  refine wpAny_bind (m:=firstArgMember _ _) (wpAny_of_eq (a:=Value.none) rfl ?_)
  refine wpAny_newObj_type ?_ (by size_fits)
  simp only[raiseNew]
  refine wpAny_bind (wpAny_handled ?_)
  rw[show A.in1.handled=none from hh]
  refine wpAny_bind (wpAny_pure (wpAny_throw ?_))
  refine wpAny_bind (wpAny_isInstance (T:="StopIteration") (b:=true) ⟨_,Heap.get?_push_size _ rfl,rfl⟩ isSubtype_stop ?_)
  refine wpAny_pure (q _ fun b ob hb e2=>Heap.get?_push_of_some _ (Heap.get?_push_of_some _ ((Heap.get?_update_other _ _ (Ne.symm hb)).trans e2)))
theorem aJ2(hh:A.handled=none){L:Addr}{h0:Heap}(X:USet h0 S (cF w) o es ep t)(hI:h0.objs.size<=I)(hL:h0.objs.size<=L)(hLI:L≠I) :
  LoopJ prog w A I L es.size (fun i acc h=>(∀ b ob,h0.get? b=some ob->h.get? b=some ob)/\pI w h I S es ep t i/\acc.toList=((aP w S ep es).toList.take i).map (·.2)) (fun acc h=>(∀ b ob,h0.get? b=some ob->h.get? b=some ob)/\acc.toList=(aP w S ep es).toList.map (·.2)):=by
 have hwl:(aP w S ep es).toList.length=es.size:=by have:=(gC (w:=w) (S:=S) (ep:=ep) es).length_eq;simpa using this
 have nI:∀ b ob,h0.get? b=some ob->b≠I:=fun b ob e z=>absurd (Heap.lt_size e) (Nat.not_lt.mpr (z ▸ hI))
 have nL:∀ b ob,h0.get? b=some ob->b≠L:=fun b ob e z=>absurd (Heap.lt_size e) (Nat.not_lt.mpr (z ▸ hL))
 have XT:∀ (h:Heap),(∀ b ob,h0.get? b=some ob->h.get? b=some ob)->USet h S (cF w) o es ep t:=fun h hk=>
  ⟨hk _ _ X.ob,X.ex,X.dt,X.tk,X.ful,X.ld,X.pl⟩
 refine⟨fun i acc s c Q E hi ⟨hk,hs,ha⟩ hS q=>?_,fun acc s c Q E ⟨hk,hs,ha⟩ hS q=>?_,fun i acc h h' ⟨hk,hs,ha⟩ _ k=>?_⟩
 ·have hlt:i < (aP w S ep es).toList.length:=by omega
  have he:(aP w S ep es)[i]? = some (aP w S ep es).toList[i]:=by rw[← Array.getElem?_toList];exact List.getElem?_eq_getElem hlt
  refine bW3 (XT s.heap hk) hs he fun h' hs' k'=>?_
  have:=q (aP w S ep es).toList[i].2 h' s.toks ⟨fun b ob e=>k' b ob (nI b ob e) (hk b ob e),hs',?_⟩ (k' _ _ hLI hS)
  ·exact this
  ·rw[Array.toList_push,ha,List.take_add_one,List.getElem?_eq_getElem hlt,List.map_append];rfl
 ·refine bW4 hh (XT s.heap hk) hs (by rw[← Array.getElem?_toList];exact List.getElem?_eq_none (by omega)) fun h' k'=>?_
  have:=q h' s.toks ⟨fun b ob e=>k' b ob (nI b ob e) (hk b ob e),by rw[ha,List.take_of_length_le (by omega)]⟩ (k' _ _ hLI hS)
  exact this
 ·obtain⟨slot,h1,h2⟩:=hs
  exact⟨fun b ob e=>k b ob (nL b ob e) (hk b ob e),⟨slot,k I _ (Ne.symm hLI) h1,h2⟩,ha⟩
theorem aS9(hh:A.handled=none)(X:USet s.heap S (cF w) o es ep t)(hz:es.size<=sizeLine){Q:List Value->Shared->Prop}
  (q:∀ h' tk,(∀ b ob,s.heap.get? b=some ob->h'.get? b=some ob)->s.heap.objs.size < h'.objs.size->Q ((aP w S ep es).toList.map (·.2)) {s with heap:=h',toks:=tk}):wpAny (model prog w) A (collect (.ref S)) Q E s:=by
 have hSlt:S < s.heap.objs.size:=Heap.lt_size X.ob
 have key:∀ R:Result->Shared->Prop,(∀ h' tk acc c,(∀ b ob,s.heap.get? b=some ob->h'.get? b=some ob)->acc.toList=(aP w S ep es).toList.map (·.2)->h'.get? s.heap.objs.size=some (eM acc c)->R (.ok (.ret (.ref s.heap.objs.size))) {s with heap:=h',toks:=tk}) ->
   codeAny (model prog w) A (.builtin "proto.collect" ⟨[.ref S],[]⟩) R s:=by
  intro R hR
  (refine codeAny_builtin F.entry_proto_collect ?_;rw[Around.under_plainId F.plain_proto_collect _])
  (show wpAny _ A.in1 (newList [] >>= fun l=>again (.builtin "list.__iadd__" ⟨[l,.ref S],[]⟩)) _ _ s;refine wpAny_bind (wpAny_newObj_type ?_))
  (refine wpAny_pure ⟨plainId_quiet F.plain_list_iadd _,codeAny_builtin F.entry_list_iadd ?_⟩;rw[Around.under_plainId F.plain_list_iadd _])
  have up:∀ b ob,s.heap.get? b=some ob->(s.heap.push (eM #[] 0)).get? b=some ob:=fun b ob e=>Heap.get?_push_of_some _ e
  have hp:(s.heap.push (eM #[] 0)).objs.size=s.heap.objs.size+1:=Heap.size_push ..
  have X1:USet ({s with heap:=s.heap.push (eM #[] 0)}:Shared).heap S (cF w) o es ep t:=
   ⟨up _ _ X.ob,X.ex,X.dt,X.tk,X.ful,X.ld,X.pl⟩
  have hT:Shared.TypeIs {s with heap:=s.heap.push (eM #[] 0)} (.ref S) "set":=⟨o,X1.ob,X.ex.1⟩
  (show wpAny _ A.in1 (Builtin.List.listExtendWith (.ref s.heap.objs.size) (.ref S) (.ref s.heap.objs.size)) _ _ {s with heap:=s.heap.push (eM #[] 0)})
  unfold Builtin.List.listExtendWith
  refine wpAny_bind (wpAny_typeOf hT ?_)
  have h1:Builtin.List.listSameRef (.ref s.heap.objs.size) (.ref S)=false:=by
   simp only[Builtin.List.listSameRef,beq_eq_false_iff_ne]
   exact Nat.ne_of_gt hSlt
  rw[if_neg (by rw[h1];decide)]
  refine wpAny_bind (bW2 X1 ?_)
  have hS2:((s.heap.push (eM #[] 0)).push (kK 0 0 es.size ep S)).get? s.heap.objs.size=some (eM #[] 0):=Heap.get?_push_of_some _ (Heap.get?_push_size _ rfl)
  have hI2:((s.heap.push (eM #[] 0)).push (kK 0 0 es.size ep S)).get? (s.heap.push (eM #[] 0)).objs.size=some (kK 0 0 es.size ep S):=Heap.get?_push_size _ rfl
  have up2:∀ b ob,s.heap.get? b=some ob->((s.heap.push (eM #[] 0)).push (kK 0 0 es.size ep S)).get? b=some ob:=fun b ob e=>Heap.get?_push_of_some _ (up b ob e)
  have hT2:Shared.TypeIs {s with heap:=(s.heap.push (eM #[] 0)).push (kK 0 0 es.size ep S)} (.ref S) "set":=⟨o,up2 _ _ X.ob,X.ex.1⟩
  have b0:SetTable.below t.place 0=0:=by
   have c:=dS X.tk.ri 0
   refine Nat.le_zero.mp (Nat.le_of_not_lt fun z=>?_)
   have hz0:0 < t.place.size:=Nat.lt_of_lt_of_le z c.le
   have e0:t.place[0]? = some t.place[0]:=Array.getElem?_eq_getElem hz0
   exact absurd (c.lo 0 _ z e0) (Nat.not_lt_zero _)
  have ne:s.heap.objs.size≠(s.heap.push (eM #[] 0)).objs.size:=by rw[hp];exact Nat.ne_of_lt (Nat.lt_succ_self _)
  have L:=aJ2 (prog:=prog) (A:=A.in1) hh (I:=(s.heap.push (eM #[] 0)).objs.size) (L:=s.heap.objs.size) X (by rw[hp];exact Nat.le_succ _) (Nat.le_refl _) ne
  have J0:(∀ b ob,s.heap.get? b=some ob->((s.heap.push (eM #[] 0)).push (kK 0 0 es.size ep S)).get? b=some ob)/\pI w ((s.heap.push (eM #[] 0)).push (kK 0 0 es.size ep S)) (s.heap.push (eM #[] 0)).objs.size S es ep t 0/\(#[]:Array Value).toList=((aP w S ep es).toList.take 0).map (·.2):=⟨up2,⟨0,hI2,fun _=>b0⟩,rfl⟩
  refine wpAny_bind (wpAny_holding (aE0 hT2 fun b=>?_))
  refine wpAny_ite_split (fun _=>?_) (fun _=>wpAny_pure ⟨plainId_quiet F.plain_extend_loop _,aX6 L hz _ es.size 0 _ #[] 0 (by omega) (Nat.zero_le _) J0 rfl hS2 fun h' tk acc c hK hsz hS'=>hR h' tk acc c hK.1 hK.2 hS'⟩)
  (refine wpAny_bind (wpAny_rule ?_);refine wpAny_bind ?_)
  (show wpAny _ _ (updateSeq s.heap.objs.size (·.push .none) >>= fun _=>updateSeq s.heap.objs.size (·.pop)) _ _ _;refine wpAny_bind (wpAny_updateSeq hS2 rfl ?_))
  have hS3:(((s.heap.push (eM #[] 0)).push (kK 0 0 es.size ep S)).update s.heap.objs.size (Obj.mapSeq (·.push Value.none))).get? s.heap.objs.size=some (eM #[.none] 1):=by
   rw[Heap.get?_update_self _ hS2 rfl];simp[Obj.mapSeq]
  refine wpAny_updateSeq (hz:=by seq_fits) hS3 rfl ?_
  have hS4:((((s.heap.push (eM #[] 0)).push (kK 0 0 es.size ep S)).update s.heap.objs.size (Obj.mapSeq (·.push Value.none))).update s.heap.objs.size (Obj.mapSeq (·.pop))).get? s.heap.objs.size=some (eM #[] 2):=by
   rw[Heap.get?_update_self _ hS3 rfl];simp[Obj.mapSeq]
  refine wpAny_pure ⟨plainId_quiet F.plain_extend_loop _,aX6 L hz _ es.size 0 _ #[] 2 (by omega) (Nat.zero_le _) (L.frame _ _ _ _ J0 ?_ fun b ob hb e=>?_) rfl hS4 fun h' tk acc c hK hsz hS'=>hR h' tk acc c hK.1 hK.2 hS'⟩
  ·exact(Heap.size_update ..).trans (Heap.size_update ..)
  ·exact(Heap.get?_update_other _ _ (Ne.symm hb)).trans ((Heap.get?_update_other _ _ (Ne.symm hb)).trans e)
 (unfold collect;refine wpAny_bind (wpAny_runValue (key _ fun h' tk acc c hK ha hS'=>?_)))
 (show wpAny _ A (load s.heap.objs.size >>= _) _ _ _;refine wpAny_bind (wpAny_load hS' ?_))
 rw[← ha]at q
 exact wpAny_pure (q h' tk hK (Heap.lt_size hS'))
end
end PySem
namespace PySem
open Sx
theorem bW5{t:SetTable}{hs:List Int}(T:TOk t hs)(h:Int):∃ M,¬ Occ t (wk t.mask h M).j/\(∀ m,m < M->Occ t (wk t.mask h m).j)/\t.freeSlot h=some ((wk t.mask h M).j,false):=by
 obtain⟨M,hM1,hM,hb⟩:=T.stop h
 refine⟨M,hM,hb,?_⟩
 have hg:=zM T (h:=h) (hashAt:=fun _=>h+1) hM hb (10*SetTable.turns t.mask) 0 (Nat.zero_le _) (by omega)
 rcases hg with⟨m,i,_,_,_,a4,_⟩ | ⟨_,a2⟩
 ·omega
 ·unfold SetTable.freeSlot
  have e:t.probe (fun _=>h+1) h (t.probeStart h)=some (.empty (wk t.mask h M).j none):=a2
  rw[e];rfl
theorem bA3{t:SetTable}{es:Array (Int×Value)}(T:TOk t (es.toList.map (·.1)))(hf:t.place.size+1<=t.mask)(h:Int)(x:Value) :
  ∃ es' t',layNew t es h x=(es',t',false,false)/\TOk t' (es'.toList.map (·.1))/\t'.led=t.led/\t'.plain=t.plain/\t'.mask=t.mask/\t'.place.size=es.size+1/\es'.size=es.size+1/\es'.toList.Perm (es.toList++[(h,x)])/\t'.dummies=#[]:=by
 obtain⟨M,hM,hb,e⟩:=bW5 T h
 have hsz:t.place.size=es.size:=by have:=T.len;simpa using this
 have hput:=oJ t (wk t.mask h M).j T.dm
 have T1:=T.put hM hb hf
 have hple:=(dS T.ri (wk t.mask h M).j).le
 have hp:=layNew_perm t es h x
 rw[Array.toList_push]at hp
 have ehs:(SetTable.insertAt es (SetTable.below t.place (wk t.mask h M).j) (h,x)).toList.map (·.1)=xG (es.toList.map (·.1)) (SetTable.below t.place (wk t.mask h M).j) h:=by
  rw[SetTable.toList_insertAt]
  unfold xG
  rw[List.map_append,List.map_cons,List.map_take,List.map_drop]
 rw[hput]at T1
 rw[← ehs]at T1
 have hne:(SetTable.insertAt es (SetTable.below t.place (wk t.mask h M).j) (h,x)).size=es.size+1:=iH es (by omega) _
 have hfit:=T1.fits (n:=es.size+1) (by rw[List.length_map,Array.length_toList,hne])
 have el:layNew t es h x=(SetTable.insertAt es (SetTable.below t.place (wk t.mask h M).j) (h,x),{t with place:=SetTable.insertAt t.place (SetTable.below t.place (wk t.mask h M).j) (wk t.mask h M).j},false,false):=by
  unfold layNew
  rw[e]
  dsimp only
  rw[hput]
  dsimp only
  unfold SetTable.orStandIn
  rw[hne,hfit];rfl
 rw[el]at hp
 exact⟨_,_,el,T1,rfl,rfl,rfl,by rw[iH t.place hple,hsz],hne,hp,T.dm⟩
theorem bK8{t:SetTable}{es:Array (Int×Value)}(T:TOk t (es.toList.map (·.1)))(hn:0 < es.size)(hb:es.size < 4050) :
  ∃ es' t',relayAll t es (SetTable.grown es.size)=(es',t',false)/\TOk t' (es'.toList.map (·.1))/\t'.led=t.led/\t'.plain=t.plain/\t'.place.size*5 < t'.mask*3/\es'.size=es.size/\es'.toList.Perm es.toList:=by
 have hgr:SetTable.grown es.size=es.size*4:=by unfold SetTable.grown;rw[if_neg (by omega)]
 obtain⟨kk,sa1,sa2,sa3,sa4⟩:=iT (es.size*4) (by omega)
 have hpos:1<=2 ^ kk:=Nat.one_le_two_pow
 have h8:8<=2 ^ kk:=by
  have:2 ^ 3<=2 ^ kk:=Nat.pow_le_pow_right (by decide) sa2
  simpa using this
 obtain⟨t3,od,l1,l2,l3,l4,l5,l6,l7⟩:=xI (mask:=2 ^ kk-1) (k:=kk) (finger:=t.finger) (moves:=t.movedTo (2 ^ kk-1)) (led:=t.led) (plain:=t.plain) (hashes:=es.map (·.1)) (by omega) (by omega) (by rw[Array.size_map];omega)
 have hrl:t.relaid (es.map (·.1)) (es.size*4)=some (t3,od):=by
  unfold SetTable.relaid
  rw[sa1];exact l1
 rw[Array.size_map]at l3 l5
 have hp:=relayAll_perm t es (SetTable.grown es.size)
 have e4:(od.filterMap (es[·]?)).toList.map (·.1)=od.toList.filterMap ((es.map (·.1))[·]?):=by
  rw[Array.toList_filterMap,List.map_filterMap]
  congr 1
  funext x
  rw[Array.getElem?_map]
 have T3:TOk t3 ((od.filterMap (es[·]?)).toList.map (·.1)):=by rw[e4];exact l2
 have hcov:coversAll od es.size=true:=by
  unfold coversAll
  exact List.isPerm_iff.mpr l3
 have hs3:(od.filterMap (es[·]?)).size=es.size:=by
  have h1:=T3.len
  rw[l5,List.length_map,Array.length_toList]at h1
  exact h1.symm
 have hfit:=T3.fits (n:=(od.filterMap (es[·]?)).size) (by rw[List.length_map,Array.length_toList])
 have el:relayAll t es (SetTable.grown es.size)=(od.filterMap (es[·]?),t3,false):=by
  unfold relayAll
  rw[hgr,hrl]
  dsimp only
  rw[hcov,hfit];rfl
 rw[el]at hp
 exact⟨_,_,el,T3,l6,l7,by rw[l4,l5];omega,hs3,hp⟩
end PySem
namespace PySem
open Sx PySem.W PyProof.Rows
noncomputable def kvI(e:Int×Value):Int:=match e.2 with | .int k _=>k | _=>0
noncomputable def bK9(prog:Program)(w:World)(h:Heap)(S:Addr)(led:Bool)(ks:List Int):Prop:=
 ∃ o es ep t,USet h S led o es ep t/\ElemsOf (intKind prog w) es.toList/\(∀ e∈es.toList,∃ k tk,e.2=.int k tk)/\(es.toList.map kvI).Perm ks/\ks.Nodup
section
variable{prog:Program}{w:World}{A:Around}{E:Value->Shared->Prop}{s:Shared}{S:Addr}{led:Bool}{ks:List Int}
theorem bE2{k k':Int}{tk:Tok}:(intKind prog w).is k (.int k' tk)=decide (k'=k):=by
 show Value.isInt k (.int k' tk)=_
 unfold Value.isInt
 rw[Bool.eq_iff_iff];simp
theorem add_int(X:bK9 prog w s.heap S led ks){k:Int}{tk:Tok}{Q:Bool->Shared->Prop}(hn:ks.length < 4000)
  (q1:k∈ks->∀ tk',Q false {s with toks:=tk'}) (q2:k∉ks->∀ h' tk' ks',bK9 prog w h' S led ks'->ks'.Perm (k::ks)->(∀ c ob,c≠S->s.heap.get? c=some ob->h'.get? c=some ob)->Q true {s with heap:=h',toks:=tk'}) :
  wpAny (model prog w) A (setAdd S (.int k tk)) Q E s:=by
 obtain⟨o,es,ep,t,U,el,hv,pm,nd⟩:=X
 have hkey:(intKind prog w).is k (.int k tk)=true:=by rw[bE2];simp
 have hes:es.size < 4000:=by
  have:=pm.length_eq
  rw[List.length_map,Array.length_toList]at this
  omega
 have hb:es.size < scanBound:=by show es.size < 4096;omega
 unfold setAdd
 refine wpAny_holding (wpAny_bind ((intKind prog w).pyHash hkey ?_))
 unfold setAddHashed setAddHashedIn
 have U':USet ({s with toks:=s.toks+1}:Shared).heap S led o es ep t:=U
 refine wpAny_holding (wpAny_bind (U'.state ?_))
 dsimp only
 rw[byScan_of rfl hb el]
 simp only[↓reduceIte]
 unfold setAddByScan
 refine wpAny_bind ?_
 refine wpAny_bind (wpAny_rule ?_)
 refine wpAny_bind (wpAny_setScan_of hkey U'.ob U'.dt U'.fits el ?_)
 have hin:∀ e∈es.toList,(intKind prog w).is k e.2=true↔kvI e=k:=fun e he=>by
  obtain⟨k',t',e'⟩:=hv e he
  rw[e',bE2,decide_eq_true_eq]
  unfold kvI
  rw[e']
 cases hr:List.findIdx? (fun e=>(intKind prog w).is k e.2) es.toList with
 | some j=>
   dsimp only
   obtain⟨hj,hpj,_⟩:=List.findIdx?_eq_some_iff_getElem.mp hr
   refine wpAny_pure (wpAny_pure (q1 ?_ _))
   rw[← pm.mem_iff,List.mem_map]
   exact⟨_,List.getElem_mem hj,(hin _ (List.getElem_mem hj)).mp hpj⟩
 | none=>
   dsimp only
   have hk:k∉ks:=fun hm=>by
    obtain⟨e,he,ek⟩:=List.mem_map.mp (pm.mem_iff.mpr hm)
    have:=List.findIdx?_eq_none_iff.mp hr e he
    rw[(hin e he).mpr ek]at this;cases this
   have hful:=U.ful
   have hm7:=U.tk.m7
   obtain⟨es1,t1,e1,T1,l1,p1,m1,s1,n1,pm1,d1⟩:=bA3 U.tk (by omega) ((intKind prog w).hash k) (.int k tk)
   rw[e1]
   dsimp only
   have hp1:t1.plain=true:=p1.trans U.pl
   have el1:ElemsOf (intKind prog w) es1.toList:=(el.push hkey rfl).perm pm1
   have hv1:∀ e∈es1.toList,∃ k tk,e.2=.int k tk:=fun e he=>by
    rcases List.mem_append.mp (pm1.mem_iff.mp he)with h | h
    ·exact hv e h
    ·rw[List.mem_singleton]at h;subst h;exact⟨k,tk,rfl⟩
   have pk1:(es1.toList.map kvI).Perm (k::ks):=by
    refine(pm1.map kvI).trans ?_
    rw[List.map_append]
    exact(List.perm_append_comm).trans (List.Perm.cons k pm)
   have nd1:(k::ks).Nodup:=List.nodup_cons.mpr ⟨hk,nd⟩
   refine wpAny_bind (wpAny_pure ?_)
   rw[hp1]
   simp only[↓reduceIte]
   refine wpAny_bind ?_
   rw[hashByValue_scannable 8 rfl]
   refine wpAny_pure ?_
   rw[show plainKind (Value.int k tk)=true from rfl]
   simp only[↓reduceIte,Bool.not_false,Bool.true_and]
   have hz1:es1.size<=sizeLine:=by rw[sizeLine_eq];omega
   refine wpAny_bind (wpAny_storeSet_of (s:={s with toks:=s.toks+1}) U.ob U.dt ?_ hz1)
   have hg:(s.heap.update S (Obj.putSet es1 t1)).get? S=some {o with data:=.set es1 (ep+1) t1}:=by
    have:=Heap.get?_update_self (Obj.putSet es1 t1) U.ob (by rw[putSet_of _ _ U.dt];rfl)
    rw[putSet_of _ _ U.dt]at this;exact this
   have kept:∀ (h:Heap) (e2:Array (Int×Value)) (t2:SetTable) c ob,c≠S->h.get? c=some ob->(h.update S (Obj.putSet e2 t2)).get? c=some ob:=fun h e2 t2 c ob hc e=>by
    rw[(Heap.SameBut.update h S (Obj.putSet e2 t2)).2 c hc];exact e
   by_cases htf:t1.tooFull=true
   ·rw[if_pos htf]
    obtain⟨es2,t2,f1,T2,l2,p2,u2,n2,pm2⟩:=bK8 T1 (by omega) (by omega)
    rw[f1]
    dsimp only
    refine wpAny_bind (wpAny_pure ?_)
    refine wpAny_bind (wpAny_storeSet_of (s:={s with heap:=s.heap.update S (Obj.putSet es1 t1),toks:=s.toks+1}) hg rfl ?_ (by rw[n2];exact hz1))
    have hg2:((s.heap.update S (Obj.putSet es1 t1)).update S (Obj.putSet es2 t2)).get? S=some {o with data:=.set es2 (ep+1+1) t2}:=by
     have:=Heap.get?_update_self (Obj.putSet es2 t2) hg (by rw[putSet_of _ _ rfl];rfl)
     rw[putSet_of _ _ rfl]at this;exact this
    refine wpAny_pure (wpAny_pure (q2 hk _ _ (k::ks) ⟨_,es2,_,t2,⟨hg2,U.ex,rfl,T2,u2,l2.trans (l1.trans U.ld),p2.trans hp1⟩,el1.perm pm2,fun e he=>hv1 e (pm2.mem_iff.mp he),(pm2.map kvI).trans pk1,nd1⟩ (.refl _) ?_))
    exact fun c ob hc e=>kept _ _ _ c ob hc (kept _ _ _ c ob hc e)
   ·rw[if_neg htf]
    have hu:t1.place.size*5 < t1.mask*3:=by
     have htf':t1.tooFull=false:=by simpa using htf
     unfold SetTable.tooFull SetTable.fill at htf'
     simp only[d1,decide_eq_false_iff_not,Nat.not_le]at htf'
     simpa using htf'
    exact wpAny_pure (wpAny_pure (q2 hk _ _ (k::ks) ⟨_,es1,_,t1,⟨hg,U.ex,rfl,T1,hu,l1.trans U.ld,hp1⟩,el1,hv1,pk1,nd1⟩ (.refl _) (kept _ _ _)))
theorem bK9.stay{h h':Heap}(X:bK9 prog w h S led ks)(hS:h'.get? S=h.get? S):bK9 prog w h' S led ks:=by
 obtain⟨o,es,ep,t,U,r⟩:=X
 exact⟨o,es,ep,t,⟨hS.trans U.ob,U.ex,U.dt,U.tk,U.ful,U.ld,U.pl⟩,r⟩
theorem aT0{I:Addr}{items:Array Value}{ks:List Int}(hl:ks.length=items.size)(hk:∀ (i:Nat) v,items[i]? = some v->∃ k tk,ks[i]? = some k/\v=.int k tk)(hSI:S≠I)(hb:ks.length < 4000) :
  Fill prog w A S I items.size (fun i v=>items[i]? = some v) (fun i h=>∃ us,bK9 prog w h S led us/\us.length<=i/\∀ x,x∈us↔x∈ks.take i) where
 put:=fun i v s Q E hi hv ⟨us,X,hlen,hm⟩ q=>by
  obtain⟨k,tk,ek,rfl⟩:=hk i v hv
  have et:ks.take (i+1)=ks.take i++[k]:=by rw[List.take_add_one,ek];rfl
  refine add_int X (by omega) (fun hin tk'=>?_) fun hin h' tk' us' X' hp hk'=>?_
  ·refine q _ s.heap tk' ⟨us,X,by omega,fun x=>?_⟩ fun c ob _ e=>e
   rw[et,List.mem_append,List.mem_singleton,hm x]
   refine⟨.inl,fun h=>?_⟩
   rcases h with h | rfl
   ·exact h
   ·exact(hm _).mp hin
  ·refine q _ h' tk' ⟨us',X',by have:=hp.length_eq;simp at this;omega,fun x=>?_⟩ hk'
   rw[hp.mem_iff,List.mem_cons,et,List.mem_append,List.mem_singleton,hm x]
   exact or_comm
 stay:=fun i h h' ⟨us,X,hlen,hm⟩ k=>by
  refine⟨us,X.stay ?_,hlen,hm⟩
  obtain⟨o,es,ep,t,Y,_⟩:=X
  rw[k S o hSI Y.ob,Y.ob]
end
end PySem
namespace Sx
open PySem PySem.W PyProof.Rows
noncomputable def one(x:Int):List Int:=[x]
noncomputable def pK(l:List Int):List Int:=(srt (l.map one)).map (·.headD 0)
theorem bL0(a b:Int):tlt (one a) (one b)=decide (a < b):=by
 show(if a=b then tlt [] []else decide (a < b))=_
 by_cases h:a=b
 ·rw[if_pos h,decide_eq_false (by omega)];rfl
 ·rw[if_neg h]
theorem bL1{ns l:List Int}(hn:ns.Nodup)(ho:ns.Pairwise (· <= ·))(hm:∀ x,x∈ns↔x∈l):ns=pK l:=by
 have e:ns.map one=srt (l.map one):=by
  refine xQ ?_ (gD _) fun x=>?_
  ·rw[aE2,List.pairwise_map]
   have h2:=List.nodup_iff_pairwise_ne.mp hn
   refine(ho.and h2).imp fun{a b} h=>?_
   rw[bL0,decide_eq_true_eq]
   have:=h.1
   have:=h.2
   omega
  ·rw[eV,List.mem_map,List.mem_map]
   exact⟨fun⟨y,h1,h2⟩=>⟨y,(hm y).mp h1,h2⟩,fun⟨y,h1,h2⟩=>⟨y,(hm y).mpr h1,h2⟩⟩
 unfold pK
 rw[← e,List.map_map]
 show ns=ns.map fun x=>x
 simp
theorem aE6:∀ {vs:List Value} (ns:List Int),vs.length=ns.length->(∀ (i:Nat) v,vs[i]? = some v->∃ k t,ns[i]? = some k/\v=.int k t)->IntsAre vs ns
 | [],[],_,_=>.nil
 | [],_::_,h,_=>by simp at h
 | _::_,[],h,_=>by simp at h
 | v::vs,n::ns,hl,h=>by
   obtain⟨k,t,e,rfl⟩:=h 0 v rfl
   simp at e
   subst e
   exact .cons _ t (aE6 ns (by simpa using hl) fun i v e=>h (i+1) v (by simpa using e))
end Sx
namespace PySem
open Sx PySem.W PyProof.Rows
section
variable{prog:Program}{w:World}{A:Around}{E:Value->Shared->Prop}{s:Shared}{S:Addr}{ks:List Int}
theorem zW(hh:A.handled=none)(X:bK9 prog w s.heap S (cF w) ks)(h64:ks.length < 64){l:List Int}(hm:∀ x,x∈ks↔x∈l){Q:Value->Shared->Prop}
  (q:∀ h' tk D vs c,s.heap.objs.size<=D->h'.get? D=some (seqObj "list" (List.toArray vs) c)->IntsAre vs (pK l)->(∀ b ob,s.heap.get? b=some ob->h'.get? b=some ob)->Q (.ref D) {s with heap:=h',toks:=tk}) :
  wpAny (model prog w) A (call (.builtin "sorted") [.ref S]) Q E s:=by
 obtain⟨o,es,ep,t,U,el,hv,pm,nd⟩:=X
 have hsz:es.size=ks.length:=by
  have:=pm.length_eq
  rw[List.length_map,Array.length_toList]at this;exact this
 have hz:es.size<=sizeLine:=by rw[sizeLine_eq];omega
 have wp:=gC (w:=w) (S:=S) (ep:=ep) es
 have hwl:(aP w S ep es).toList.length=es.size:=by have:=wp.length_eq;simpa using this
 refine Calls.call_function_entry kind_sorted plain_sorted entry_sorted (args_sorted1 _) ?_
 unfold Builtin.«sorted»
 refine wpAny_bind (m:=checkCount "sorted" 1 1 _) (wpAny_pure ?_)
 refine wpAny_bind (aS9 (A:=A.in1) hh U hz fun h1 tk1 kept1 grown1=>?_)
 have ia:IntsAre ((aP w S ep es).toList.map (·.2)) ((aP w S ep es).toList.map kvI):=by
  refine aE6 _ (by rw[List.length_map,List.length_map]) fun i v e=>?_
  rw[List.getElem?_map]at e
  obtain⟨e',ee,rfl⟩:=Option.map_eq_some_iff.mp e
  obtain⟨k,tk,ek⟩:=hv e' (wp.mem_iff.mp (List.mem_of_getElem? ee))
  refine⟨k,tk,?_,ek⟩
  rw[List.getElem?_map,ee]
  show some (kvI e')=some k
  unfold kvI
  rw[ek]
 have pk:((aP w S ep es).toList.map kvI).Perm ks:=(wp.map kvI).trans pm
 generalize hvs:(aP w S ep es).toList.map (·.2)=vs at ia ⊢
 have vl:vs.length=es.size:=by rw[← hvs,List.length_map];exact hwl
 refine wpAny_bind (wpAny_newList ?_ (by rw[vl];exact hz))
 have hoD:(h1.push (seqObj "list" vs.toArray 0)).get? h1.objs.size=some (seqObj "list" vs.toArray 0):=Heap.get?_push_size _ rfl
 have up1:∀ b ob,h1.get? b=some ob->(h1.push (seqObj "list" vs.toArray 0)).get? b=some ob:=fun b ob e=>Heap.get?_push_of_some _ e
 refine wpAny_bind (wpAny_holding (wpAny_call_entry slot_list_sort ⟨_,hoD,rfl⟩ entry_list_sort (list_sort_tree (s:={s with heap:=h1.push (seqObj "list" vs.toArray 0),toks:=tk1}) hoD ia (by rw[vl];omega) fun out ns' a1 a2 a3=>⟨_,rfl,?_⟩) (args_list_sort _)))
 refine wpAny_pure ⟨_,rfl,?_⟩
 obtain⟨c,hc⟩:=sortedHeap_at (out:=out) hoD
 have hns:ns'=pK l:=bL1 ((a2.trans pk).nodup_iff.mpr nd) a3 fun x=>((a2.trans pk).mem_iff).trans (hm x)
 subst hns
 refine q _ tk1 h1.objs.size out.toList c (Nat.le_of_lt grown1) (by rw[Array.toArray_toList];exact hc) a1 fun b ob e=>?_
 have hb:=kept1 b ob e
 have hlt:b < h1.objs.size:=Heap.lt_size hb
 exact(sortedHeap_old (Nat.ne_of_lt hlt) (by show b < (h1.push _).objs.size;rw[Heap.size_push];exact Nat.lt_succ_of_lt hlt)).trans (up1 b ob hb)
end
end PySem
namespace L2
open PySem PySem.Spec PyProof.Rows Sx
noncomputable def oP:List V->Hp->VK->Prop:=fun vs H Q=>∃ (p:Addr) (b:Bool) (ns:List Int),vs=[.ref p]/\fA H p=some (b,ns.map V.int)/\ns.length < 4000/\(pK ns).length < 64/\∀ r,H r=none->Q (.ref r) (upd H r (.lst ((pK ns).map V.int)))
theorem qE:∀ {vs:List Value} {ns:List Int},IntsAre vs ns->bL (ns.map V.int) vs
 | _,_,.nil=>.nil
 | _,_,.cons n t h=>.cons ⟨t,rfl⟩ (qE h)
theorem rF{X:Cx}(hc:X.calm=true):∀ pins s σ H vs us Q,Inv X pins σ H s->bL vs us->oP vs H Q ->
  wpAny (model X.prog X.w) X.A (call (.type "set") us) (fun u s1=>wpAny (model X.prog X.w) X.A (call (.builtin "sorted") [u]) (EP X pins σ Q) X.xe s1) X.xe s:=by
 intro pins s σ H vs us Q I rv h
 obtain⟨p,b,ns,rfl,hH,hn,h64,q⟩:=h
 obtain⟨u,rfl,ru⟩:=rv.one
 cases ru
 obtain⟨its,r,⟨src⟩⟩:=aE4 I hc hH
 have hlen:ns.length=its.length:=by simpa using r.length
 have hk:∀ (i:Nat) v,its.toArray[i]? = some v->∃ k tk,ns[i]? = some k/\v=.int k tk:=fun i v e=>by
  rw[List.getElem?_toArray]at e
  have hi:i < ns.length:=by rw[hlen];exact(List.getElem?_eq_some_iff.mp e).1
  obtain⟨v',e',rv'⟩:=r.get (i:=i) (x:=.int ns[i]) (by rw[List.getElem?_map,List.getElem?_eq_getElem hi];rfl)
  rw[e]at e'
  cases e'
  obtain⟨tk,rfl⟩:=rv'
  exact⟨ns[i],tk,List.getElem?_eq_getElem hi,rfl⟩
 refine aD8 src (fun A' ha hu'=>aT0 (prog:=X.prog) (w:=X.w) (led:=cF X.w) (ks:=ns) (by rw[List.size_toArray];exact hlen) hk (Nat.ne_of_lt (Nat.lt_succ_self _)) hn) (fun h' hS hold=>?_) fun h' tk ⟨us,X1,_,hm⟩ hkeep=>?_
 ·refine⟨[],⟨_,#[],0,_,⟨hS,⟨rfl,rfl,rfl⟩,rfl,?_,?_,rfl,rfl⟩,fun e he=>by simp at he,fun e he=>by simp at he,.refl _,.nil⟩,Nat.le_refl _,fun x=>by simp⟩
  ·refine⟨⟨3,rfl⟩,Nat.le_refl _,rfl,fun i j a b _ e=>by simp[SetTable.fresh]at e,fun i j e=>by simp[SetTable.fresh]at e,rfl,by simp[SetTable.fresh],fun i h e=>by simp at e⟩
  ·simp[SetTable.fresh]
 ·have hm':∀ x,x∈us↔x∈ns:=fun x=>by
   rw[hm x,List.take_of_length_le (by rw[List.size_toArray];omega)]
  have nd:us.Nodup:=by obtain⟨_,_,_,_,_,_,_,_,nd⟩:=X1;exact nd
  have hul:us.length=(pK ns).length:=by
   have n1:(us.map one).Nodup:=by
    rw[List.nodup_iff_pairwise_ne,List.pairwise_map]
    refine(List.nodup_iff_pairwise_ne.mp nd).imp fun{a b} h e=>h ?_
    have e':[a]=[b]:=e
    simpa using e'
   have:=((List.perm_ext_iff_of_nodup n1 (xP (gD (ns.map one)))).mpr fun x=>by
    rw[eV,List.mem_map,List.mem_map]
    exact⟨fun⟨y,h1,h2⟩=>⟨y,(hm' y).mp h1,h2⟩,fun⟨y,h1,h2⟩=>⟨y,(hm' y).mpr h1,h2⟩⟩).length_eq
   unfold pK
   rw[List.length_map]at this ⊢
   exact this
  have hgr:s.heap.objs.size < h'.objs.size:=by obtain⟨_,_,_,_,U,_⟩:=X1;exact Heap.lt_size U.ob
  refine zW (s:={s with heap:=h',toks:=tk}) (I.ok.hd hc) X1 (by omega) hm' fun h2 tk2 D vs c hD ho2 ia keep2=>?_
  have hD':s.heap.objs.size<=D:=Nat.le_trans (Nat.le_of_lt hgr) hD
  refine⟨.ref D,upd H D (.lst ((pK ns).map V.int)),?_,rfl,q D (I.hok.fresh hD')⟩
  exact I.laid (t':=tk2) (fun b ob e=>keep2 b ob (hkeep b ob e)) hD' ⟨by rw[List.length_map,sizeLine_eq];omega,vs,c,qE ia,ho2⟩
end L2
namespace L2
open PySem PySem.Spec PyProof.Rows Sx
noncomputable def xY:List V->Hp->VK->Prop:=fun vs H Q=>rE vs H Q\/oP vs H Q
theorem dA{X:Cx}(hc:X.calm=true)(hu:X.A.units+8 < cLine):∀ pins s σ H vs us Q,Inv X pins σ H s->bL vs us->xY vs H Q ->
  wpAny (model X.prog X.w) X.A (call (.type "set") us) (fun u s1=>wpAny (model X.prog X.w) X.A (call (.builtin "sorted") [u]) (EP X pins σ Q) X.xe s1) X.xe s:=by
 intro pins s σ H vs us Q I rv h
 rcases h with h | h
 ·exact xR hc hu pins s σ H vs us Q I rv h
 ·exact rF hc pins s σ H vs us Q I rv h
end L2
namespace Dv
open PySem L2 Mr Sx
noncomputable def lS:FN:=fun ds=>match ds with
 | [d]=>(bL9 d).bind fun x=>(pJ x.2).bind fun ns=>if ns.length < 4000/\(pK ns).length < 64 then some (.own (.lst ((pK ns).map D.int)))else none
 | _=>none
theorem xZ:aY1 oP lS:=by
 intro H ds vs Q res vw e k
 unfold lS at e
 split at e
 ·obtain⟨⟨b,l⟩,e1,e⟩:=aC e
  obtain⟨ns,e2,e⟩:=aC e
  dsimp only at e2
  split at e
  ·rename_i hz
   cases e
   cases vw with
   | cons a t=>
     cases t
     obtain⟨p,xs,rfl,h1,h2⟩:=bC5 a e1
     rw[jR e2]at h2
     rw[h2.ints_inv]at h1
     refine⟨p,b,ns,rfl,h1,hz.1,hz.2,fun r hr=>?_⟩
     exact k _ _ (bS hr) ⟨r,rfl,hr,_,aT,lL _⟩
  ·cases e
 ·cases e
noncomputable def bZ:FN:=fun ds=>match iJ ds with
 | some r=>some r
 | none=>lS ds
theorem dW:aY1 xY bZ:=by
 intro H ds vs Q res vw e k
 unfold bZ at e
 split at e
 ·rename_i r hr
  cases e
  exact .inl (zV H ds vs Q _ vw hr k)
 ·exact .inr (xZ H ds vs Q _ vw e k)
theorem bA4{ks:List (List Int)}(h:ks.length < 4000/\(srt ks).length < 64/\(2<=(srt ks).length->∀ k∈ks,k≠[])):iJ [.lst (ks.map tI)]=some (.own (.lst ((srt ks).map tI)))/\iJ [.tup (ks.map tI)]=some (.own (.lst ((srt ks).map tI))):=by
 constructor
 ·show(zU (ks.map tI)).bind _=_
  rw[xU]
  exact if_pos h
 ·show(zU (ks.map tI)).bind _=_
  rw[xU]
  exact if_pos h
theorem rG{ks:List (List Int)}(h:ks.length < 4000/\(srt ks).length < 64/\(2<=(srt ks).length->∀ k∈ks,k≠[])):bZ [.lst (ks.map tI)]=some (.own (.lst ((srt ks).map tI)))/\bZ [.tup (ks.map tI)]=some (.own (.lst ((srt ks).map tI))):=by
 obtain⟨h1,h2⟩:=bA4 h
 unfold bZ
 rw[h1,h2]
 exact⟨rfl,rfl⟩
theorem bA5{ns:List Int}(h:ns.length < 4000/\(pK ns).length < 64):bZ [.lst (ns.map D.int)]=some (.own (.lst ((pK ns).map D.int))):=by
 have e:lS [.lst (ns.map D.int)]=some (.own (.lst ((pK ns).map D.int))):=by
  show(pJ (ns.map D.int)).bind _=_
  rw[xT]
  exact if_pos h
 cases ns with
 | nil=>
   have h0:=(rG (ks:=[]) ⟨by decide,by decide,fun _ k hk=>by simp at hk⟩).1
   exact h0
 | cons n r=>
   have e0:iJ [.lst ((n::r).map D.int)]=none:=rfl
   unfold bZ
   rw[e0]
   exact e
end Dv
namespace Mr
open PySem L2 Dv
noncomputable def fS:DS:=(cL (fM 2 (aZ iM (aZ zH (dC (.int 7919)) (aI 1)) (dC (.int 11))))
 (cL (rM (gO (aZ ltA (aI 1) (dCB pT (aD (aI 0) aW)))) (fM 2 (aZ ixD (aI 0) (aI 1))) (rM (gO (aZ gtI (dCB pT (aD (aI 0) aW)) (dC (.int 0)))) (fM 2 (aZ iM (aI 2) (aZ zH (aZ aJ9 (aZ ixD (aI 0) (aZ aJ9 (aI 1) (dCB pT (aD (aI 0) aW)))) (dC (.int 2147483629))) (dC (.int 69623))))) iL))
 (cL (fM 3 (aZ iM (aZ aJ9 (aZ iM (aZ zH (aZ aJ9 (aI 2) (dC (.int 2147483629))) (dC (.int 48271))) (aZ zH (dC (.int 40692)) (aI 1))) (dC (.int 2147483629))) (dC (.int 1))))
 (iR (yW (aD (dFz (aZ zH (aI 2) (dCB bM4 (aD (aZ geI (aI 2) (aZ cC0 (dC (.int 10)) (dC (.int 18)))) aW)))) (aD (dFz (aI 3)) aW)))))))
noncomputable def cH:Dv.Run:=pE 4 fS
noncomputable def eW:DS:=(cL (rM (gO (aZ gtI (aZ ixD (aI 0) (dC (.int 0))) (dC (.int 0)))) (cL (fM 2 (aZ aJ9 (aZ ixD (aI 0) (dC (.int 0))) (aI 1)))
 (cL (bM6 0 (dC (.int 0)) (aZ bY9 (aZ ixD (aI 0) (dC (.int 0))) (aI 1)))
 (iR (aI 2)))) iL)
 (cL (fM 3 (aZ aJ9 (aZ zH (aZ ixD (aI 0) (dC (.int 1))) (dC (.int 69623))) (dC (.int 2147483647))))
 (cL (bM6 0 (dC (.int 1)) (aZ iM (aZ aJ9 (aZ iM (aZ zH (aI 3) (dC (.int 48271))) (dC (.int 30103))) (dC (.int 2147483629))) (dC (.int 1))))
 (iR (aZ aJ9 (aZ bY9 (aZ iM (aZ zH (aI 3) (dC (.int 2147483647))) (aZ ixD (aI 0) (dC (.int 1)))) (dC (.int 8191))) (aI 1))))))
noncomputable def aF:Dv.Run:=pE 4 eW
noncomputable def dX:DS:=(cL (fM 2 (dC (.str "abcdefghijklmnopqrstuvwxyz")))
 (cL (fM 3 (aJ5 (aQ5 "") (fY [12] (bM1 (aD (aX 2 aF (aD (aI 0) (aD (dC (.int 5)) aW))) aW)) (dgN 12) jF (aZ ixD (aI 2) (aX 2 aF (aD (aI 0) (aD (dC (.int 26)) aW)))))))
 (cL (fM 4 (aX 2 aF (aD (aI 0) (aD (aZ iM (dCB pT (aD (aI 3) aW)) (dC (.int 1))) aW))))
 (cL (fM 5 (aX 2 aF (aD (aI 0) (aD (dC (.int 26)) aW))))
 (cL (fM 6 (aX 2 aF (aD (aI 0) (aD (dC (.int 4)) aW))))
 (cL (rM (gO (aZ (eqD false) (aI 6) (dC (.int 2)))) (cL (bI0 (zA 3 (gZ (dgN 7) (gZ (dgN 8) (gZ (dgN 9) yZ)))) (dFz (dSl (dSl (aI 2) (dP (aX 2 aF (aD (aI 0) (aD (dC (.int 24)) aW)))) aH9) aH9 (dP (dC (.int 3))))))
 (cL (fM 10 (yW (aD (dFz (aI 7)) (aD (dFz (aZ iM (aI 7) (aI 8))) (aD (dFz (aI 8)) (aD (dFz (aZ iM (aI 8) (aI 9))) aW))))))
 (iR (dSl (aZ iM (aI 10) (yW (aD (dFz (aI 9)) (aD (dFz (aZ iM (aI 7) (aI 9))) (aD (dFz (aZ iM (aZ iM (aI 7) (aI 8)) (aI 9))) (aD (dFz (aZ iM (aI 9) (aI 8))) aW)))))) aH9 (dP (aI 1)))))) iL)
 (cL (fM 11 (yW aW))
 (cL (aZ0 (bM1 (aD (aI 1) aW)) (dgN 12)
 (cL (fM 13 (aZ iM (aZ iM (dSl (aI 3) aH9 (dP (aI 4))) (aZ ixD (aI 2) (aZ aJ9 (aZ iM (aI 5) (aZ zH (dC (.int 5)) (aI 12))) (dC (.int 26))))) (dSl (aI 3) (dP (aI 4)) aH9)))
 (aH7 (sC "list" 11 bM5 (aD (dFz (aZ iM (aI 13) (aZ zH (dC (.str "z")) (dCB bM4 (aD (sA (aZ (eqD false) (aI 6) (dC (.int 1))) (aZ (eqD false) (aZ aJ9 (aI 12) (dC (.int 2))) (dC (.int 1)))) aW))))) aW)))))
 (cL (fM 14 (yW (aD (dC (.str "table")) (aD (dC (.str "tree")) (aD (dC (.str "none")) (aD (dC (.str "answer")) (aD (dC (.str "levels")) (aD (dC (.str "looks")) aW))))))))
 (cL (fM 14 (aZ iM (aI 14) (yW (aD (dC (.str "at")) (aD (dC (.str "count")) (aD (dC (.str "ears")) (aD (dC (.str "cover")) (aD (dC (.str "place")) aW))))))))
 (cL (fM 13 (aZ ixD (aI 14) (aX 2 aF (aD (aI 0) (aD (dC (.int 11)) aW)))))
 (cL (rM (bT0 (gO (aZ (eqD false) (aX 2 aF (aD (aI 0) (aD (dC (.int 4)) aW))) (dC (.int 0)))) (gO (aZ (inD true) (aI 13) (aI 11)))) (bM6 11 (aX 2 aF (aD (aI 0) (aD (aI 1) aW))) (dFz (aI 13))) iL)
 (iR (aI 11))))))))))))))
noncomputable def dB:Dv.Run:=pE 15 dX
noncomputable def dY:DS:=(cL (fM 2 (dCB qU (aD (aI 1) aW)))
 (cL (fM 3 (yW aW))
 (cL (aC3 (gO (aZ gtI (dCB pT (aD (aI 2) aW)) (dC (.int 0))))
 (aH7 (sC "list" 3 bM5 (aD (dFz (sC "list" 2 sH (aD (dFz (aX 2 aF (aD (aI 0) (aD (dCB pT (aD (aI 2) aW)) aW)))) aW))) aW))))
 (iR (aI 3)))))
noncomputable def bK:Dv.Run:=pE 4 dY
noncomputable def eX:DS:=(cL (fM 3 (aZ ixD (yW (aD (dC (.int 2)) (aD (dC (.int 3)) (aD (dC (.int 10)) (aD (dC (.int 1000)) aW))))) (aX 2 aF (aD (aI 0) (aD (dC (.int 4)) aW)))))
 (cL (fM 4 (aX 2 aF (aD (aI 0) (aD (aZ ixD (yW (aD (dFz (aZ iM (aI 2) (dC (.int 1)))) (aD (dC (.int 6)) aW))) (aX 2 aF (aD (aI 0) (aD (dC (.int 2)) aW)))) aW))))
 (iR (dCB sG (aD (dCB bZ (aD (fY [5] (bM1 (aD (aI 4) aW)) (dgN 5) jF (dCB sG (aD (fY [6] (dIt (aI 1)) (dgN 6) jF (dFz (aX 2 aF (aD (aI 0) (aD (aI 3) aW))))) aW))) aW)) aW)))))
noncomputable def dZ:Dv.Run:=pE 7 eX
noncomputable def eA:DS:=(cL (fM 3 (dCB sG (aD (dSl (aX 2 bK (aD (aI 0) (aD (aI 1) aW))) aH9 (dP (aX 2 aF (aD (aI 0) (aD (aZ iM (dCB pT (aD (aI 1) aW)) (dC (.int 1))) aW))))) aW)))
 (iR (bM0 (aD (dFz (aI 3)) (aD (dFz (aX 3 dZ (aD (aI 0) (aD (aI 3) (aD (aI 2) aW))))) aW)))))
noncomputable def dD:Dv.Run:=pE 4 eA
noncomputable def eB:DS:=(iR (sA (aJ5 (aK0 "int") (aI 0)) (aY3 (aJ5 (aK0 "bool") (aI 0)))))
noncomputable def cA:Dv.Run:=pE 1 eB
noncomputable def cI:DS:=(cL (rM (dOr (aB3 (gO (aJ5 (aK0 "tuple") (aI 0)))) (dOr (gO (aZ (eqD true) (dCB pT (aD (aI 0) aW)) (dC (.int 2)))) (aB3 (gO (aJ5 (aK0 "tuple") (aZ ixD (aI 0) (dC (.int 1)))))))) (iR (dC (.bl false))) iL)
 (cL (aZ0 (dIt (aZ ixD (aI 0) (dC (.int 1)))) (dgN 3)
 (rM (dOr (aB3 (gO (aJ5 (aK0 "tuple") (aI 3)))) (aB3 (gO (dCB bU0 (aD (fY [4] (dIt (aI 3)) (dgN 4) jF (dFz (aX 1 cA (aD (aI 4) aW)))) aW))))) (iR (dC (.bl false))) iL))
 (iR (sA (aZ (eqD false) (aZ ixD (aI 0) (dC (.int 0))) (dCB sG (aD (aI 1) aW))) (aZ (eqD false) (aZ ixD (aI 0) (dC (.int 1))) (dCB sG (aD (dCB bZ (aD (aI 2) aW)) aW)))))))
noncomputable def aN:Dv.Run:=pE 5 cI
noncomputable def iC:DS:=(iR (dCB sG (aD (fY [3] (dIt (aI 2)) (dgN 3) jF (aZ ixD (aI 1) (dMT bA2 (aI 0) (aI 3)))) aW)))
noncomputable def fT:Dv.Run:=pE 4 iC
noncomputable def eC:DS:=(iR (fY [2] (dIt (aI 1)) (dgN 2) jF (dFz (dMT bA2 (aI 0) (aI 2)))))
noncomputable def dE:Dv.Run:=pE 3 eC
noncomputable def eY:DS:=(iR (bM0 (aD (dCB sG (aD (aI 0) aW)) (aD (dCB sG (aD (dCB bZ (aD (aI 1) aW)) aW)) aW))))
noncomputable def bX:Dv.Run:=pE 2 eY
noncomputable def iD:DS:=(iR (dCB sG (aD (fY [2] (dIt (aI 1)) (dgN 2) jF (aZ ixD (aI 0) (aI 2))) aW)))
noncomputable def fU:Dv.Run:=pE 3 iD
noncomputable def yA:DS:=(cL (fM 2 (aX 2 dE (aD (aZ ixD (aI 0) (dC (.int 0))) (aD (aI 1) aW))))
 (iR (aX 2 bX (aD (aI 1) (aD (fY [3] (dIt (aZ ixD (aI 0) (dC (.int 1)))) (dgN 3) jF (dFz (aX 2 fU (aD (aI 3) (aD (aI 2) aW))))) aW)))))
noncomputable def oQ:Dv.Run:=pE 4 yA
noncomputable def cD:DS:=(cL (bI0 (zA 2 (gZ (dgN 2) (gZ (dgN 3) yZ))) (dFz (aI 0)))
 (iR (aX 3 aN (aD (aX 2 oQ (aD (aI 0) (aD (aI 1) aW))) (aD (aI 1) (aD (fY [4] (dIt (aI 3)) (dgN 4) jF (dFz (aX 3 fT (aD (aI 2) (aD (aI 4) (aD (aI 1) aW)))))) aW))))))
noncomputable def aU:Dv.Run:=pE 5 cD
noncomputable def eD:DS:=(cL (fM 2 (dMT bA2 (aZ ixD (aI 0) (dC (.int 0))) (aI 1)))
 (iR (dCB bZ (aD (fY [3] (dIt (aZ ixD (aI 0) (dC (.int 1)))) (dgN 3) jF (aZ ixD (aI 3) (aI 2))) aW))))
noncomputable def cK:Dv.Run:=pE 4 eD
noncomputable def oR:DS:=(cL (fM 3 (dMT bA2 (aZ ixD (aI 0) (dC (.int 0))) (aI 1)))
 (iR (bM0 (aD (aZ ixD (aI 0) (dC (.int 0))) (aD (dCB sG (aD (fY [4] (dIt (aZ ixD (aI 0) (dC (.int 1)))) (dgN 4) (gO (aZ (eqD false) (aZ ixD (aI 4) (aI 3)) (aI 2))) (dFz (aI 4))) aW)) aW)))))
noncomputable def jU:Dv.Run:=pE 5 oR
noncomputable def bW:DS:=(cL (bI0 (zA 2 (gZ (dgN 3) (gZ (dgN 4) yZ))) (dFz (aI 0)))
 (cL (fM 5 (dMT bA2 (aI 3) (aI 1)))
 (cL (fM 6 (dCB bZ (aD (fY [8] (dIt (aI 4)) (dgN 8) jF (aZ ixD (aI 8) (aI 5))) aW)))
 (cL (fM 7 (aX 2 cK (aD (aI 0) (aD (aI 1) aW))))
 (cL (rM (dOr (aB3 (gO (aJ5 (aK0 "list") (aI 7)))) (dOr (gO (aZ (eqD true) (aI 7) (aI 6))) (aB3 (gO (dCB bU0 (aD (fY [9] (dIt (aI 7)) (dgN 9) jF (dFz (aX 1 cA (aD (aI 9) aW)))) aW)))))) (iR (dC (.bl false))) iL)
 (cL (aH7 (sC "list" 7 bM5 (aD (dC (.int 0)) aW)))
 (cL (rM (aB3 (gO (aX 3 aN (aD (aX 3 jU (aD (aI 0) (aD (aI 1) (aD (aI 2) aW)))) (aD (aI 3) (aD (fY [8] (dIt (aI 4)) (dgN 8) (gO (aZ (eqD false) (aZ ixD (aI 8) (aI 5)) (aI 2))) (dFz (aI 8))) aW)))))) (iR (dC (.bl false))) iL)
 (iR (aZ (eqD false) (aX 2 cK (aD (aI 0) (aD (aI 1) aW))) (aI 6))))))))))
noncomputable def bR:Dv.Run:=pE 10 bW
noncomputable def yB:DS:=(cL (fM 1 (aX 2 cH (aD (aI 0) (aD (dC (.int 0)) aW))))
 (cL (fM 2 (aX 2 dB (aD (aI 1) (aD (dC (.int 6)) aW))))
 (cL (fM 3 (aX 3 dD (aD (aX 2 cH (aD (aI 0) (aD (dC (.int 1)) aW))) (aD (aI 2) (aD (dC (.int 60)) aW)))))
 (cL (bI0 (zA 2 (gZ (dgN 4) (gZ (dgN 5) yZ))) (dFz (aI 3)))
 (cL (fM 6 (dCB sG (aD (dSl (aX 2 bK (aD (aI 1) (aD (aI 4) aW))) aH9 (dP (aX 2 aF (aD (aI 1) (aD (aZ iM (dCB pT (aD (aI 4) aW)) (dC (.int 1))) aW))))) aW)))
 (cL (rM (aB3 (gO (aX 2 aU (aD (aI 3) (aD (aI 6) aW))))) (iR (dC (.bl false))) iL)
 (cL (rM (gO (aZ gtI (dCB pT (aD (aI 4) aW)) (dC (.int 0)))) (cL (fM 7 (aZ ixD (aI 4) (aX 2 aF (aD (aI 1) (aD (dCB pT (aD (aI 4) aW)) aW)))))
 (cL (fM 8 (aX 2 aF (aD (aI 1) (aD (aZ ixD (yW (aD (dC (.int 1000)) (aD (dC (.int 3)) aW))) (aX 2 aF (aD (aI 1) (aD (dC (.int 2)) aW)))) aW))))
 (cL (rM (bT0 (gO (aZ gtI (dCB pT (aD (aI 5) aW)) (dC (.int 0)))) (gO (aZ gtI (aX 2 aF (aD (aI 1) (aD (dC (.int 3)) aW))) (dC (.int 0))))) (fM 8 (aZ ixD (aZ ixD (aI 5) (aX 2 aF (aD (aI 1) (aD (dCB pT (aD (aI 5) aW)) aW)))) (dMT bA2 (aI 4) (aI 7)))) iL)
 (rM (aB3 (gO (aX 3 bR (aD (aI 3) (aD (aI 7) (aD (aI 8) aW)))))) (iR (dC (.bl false))) iL)))) iL)
 (cL (fM 9 (aX 2 bK (aD (aX 2 cH (aD (aI 0) (aD (dC (.int 2)) aW))) (aD (dSl (aZ iM (aI 5) (dSl (aI 5) aH9 (dP (aX 2 aF (aD (aI 1) (aD (aZ iM (dCB pT (aD (aI 5) aW)) (dC (.int 1))) aW)))))) aH9 (dP (dC (.int 60)))) aW))))
 (cL (aZ0 (dIt (yW (aD (dFz (dCB qU (aD (aI 9) aW))) (aD (dCB sG (aD (aI 9) aW)) aW)))) (dgN 10)
 (rM (dOr (aB3 (gO (aX 3 aN (aD (aX 2 bX (aD (aI 4) (aD (aI 10) aW))) (aD (aI 4) (aD (aI 5) aW)))))) (gO (aZ (eqD true) (dCB qU (aD (aI 10) aW)) (aI 9)))) (iR (dC (.bl false))) iL))
 (iR (sA (aX 2 aU (aD (aI 3) (aD (aI 6) aW))) (aX 2 aU (aD (aI 3) (aD (aI 4) aW))))))))))))))
noncomputable def kM:Dv.Run:=pE 11 yB
open PySem L2 Dv
section
variable{P:Program}{w:World}{K:PySem.W.Frag}{mg:Str->Option Value}{base:Heap}{a:Adr}
theorem aJ3(T:Txt K mg a):FnOk P w K mg base CX0 1 a.law_box a.fd_law_box ["_law_script","_law_k"] (dsp 2 cH):=by
 refine cE T.F_law_box pZ (by decide) fS (fun cdv A outer s H E hr=>?_)
 have nd:=pZ.nd
 unfold fS
 exact(aG (aR (i:=2) nd rfl (Or.inl rfl) (aS bG bH (aS fH fJ ge_int (aB (pv 1))) ge_int))
  (aG (jC (eQ (bW1 hr.units0) bK7 (aB (pv 1)) (cC cZ (fun Γ=>aY bQ (by rfl) T.n_len cG (gA (aA (aB (pv 0)) aE) Γ))) (cR _)) (aQ (aR (i:=2) nd rfl (Or.inl rfl) (cM (aB (pv 0)) (aB (pv 1)) (fun _ _=>rfl)))) (aQ (jC (eQ aG4 kH (cC cZ (fun Γ=>aY bQ (by rfl) T.n_len cG (gA (aA (aB (pv 0)) aE) Γ))) ge_int (cR _)) (aQ (aR (i:=2) nd rfl (Or.inl rfl) (aS bG bH (aB (pv 2)) (aS fH fJ (aS iN fG (cM (aB (pv 0)) (aS iN fG (aB (pv 1)) (cC cZ (fun Γ=>aY bQ (by rfl) T.n_len cG (gA (aA (aB (pv 0)) aE) Γ)))) (fun _ _=>rfl)) ge_int) ge_int)))) dJ)))
  (aG (aR (i:=3) nd rfl (Or.inl rfl) (aS bG bH (aS iN fG (aS bG bH (aS fH fJ (aS iN fG (aB (pv 2)) ge_int) ge_int) (aS fH fJ ge_int (aB (pv 1)))) ge_int) ge_int))
  (aQ (bT (gX (aA (cS (aS fH fJ (aB (pv 2)) (cC aO3 (fun Γ=>bC rP (by rfl) T.n_int qY (gA (aA (pQ cA5 bI6 (aB (pv 2)) (aS bQ6 bI5 ge_int ge_int) (cR _)) aE) Γ))))) (aA (cS (aB (pv 3))) aE))))))))
theorem zX(T:Txt K mg a):FnOk P w K mg base CX0 1 a.law_take a.fd_law_take ["_law_box_here","_law_many"] (dsp 2 aF):=by
 refine cE T.F_law_take nY (by decide) eW (fun cdv A outer s H E hr=>?_)
 have nd:=nY.nd
 unfold eW
 exact(aG (jC (eQ aG4 kH (cM (aB (pv 0)) ge_int (fun _ _=>rfl)) ge_int (cR _)) (aG (aR (i:=2) nd rfl (Or.inl rfl) (aS iN fG (cM (aB (pv 0)) ge_int (fun _ _=>rfl)) (aB (pv 1))))
  (aG (aO5 (k:=0) (fun Γ=>lU (gE (aS aC8 aO6 (cM (aB (pv 0)) ge_int (fun _ _=>rfl)) (aB (pv 1))) Γ) (aK5 (pv 0) (gE ge_int Γ) qJ)))
  (aQ (bT (aB (pv 2)))))) dJ)
  (aG (aR (i:=3) nd rfl (Or.inl rfl) (aS iN fG (aS fH fJ (cM (aB (pv 0)) ge_int (fun _ _=>rfl)) ge_int) ge_int))
  (aG (aO5 (k:=0) (fun Γ=>lU (gE (aS bG bH (aS iN fG (aS bG bH (aS fH fJ (aB (pv 3)) ge_int) ge_int) ge_int) ge_int) Γ) (aK5 (pv 0) (gE ge_int Γ) qJ)))
  (aQ (bT (aS iN fG (aS aC8 aO6 (aS bG bH (aS fH fJ (aB (pv 3)) ge_int) (cM (aB (pv 0)) ge_int (fun _ _=>rfl))) ge_int) (aB (pv 1))))))))
theorem yC(T:Txt K mg a)(G_law_take:FnOk P w K mg base CX0 1 a.law_take a.fd_law_take ["_law_box_here","_law_many"] (dsp 2 aF)):FnOk P w K mg base CX0 2 a.law_names a.fd_law_names ["_law_box_here","_law_many"] (dsp 2 dB):=by
 refine cE T.F_law_names kX (by decide) dX (fun cdv A outer s H E hr=>?_)
 have nd:=kX.nd
 unfold dX
 exact(aG (aR (i:=2) nd rfl (Or.inr rfl) fN)
  (aG (aR (i:=3) nd rfl (Or.inl rfl) (bJ2 (sep:="") K (fun Γ=>rY K (by rfl) PySem.F.plainAttrs_str PySem.F.slot_str_join PySem.F.type_str_join (aZ4 K (by rfl)) bB7 (gA (aA (cY (ow:=[12]) (bD (by decide)) (fun Γ=>cV (csc [12] (by kernel_rfl)) (gI (zC (fun Γ=>lV (by rfl) T.n_range (gA (aA (aL (fun Γ=>aK G_law_take (hr.mono (by decide)) (by rfl) T.m_law_take T.F_law_take.kp (aM T) .nil bJ (gA (aA (aB (pv 0)) (aA ge_int aE)) Γ))) aE) Γ)) aY8) Γ) (fun _ _ _ _=>(bB (i:=12) nd rfl (Or.inl rfl) (.inr rfl))) (bP (by decide)) (fun _ _ _ _=>cO) (fun _ _ _ _=>gE (cM (aB (pv 2)) (aL (fun Γ=>aK G_law_take (hr.mono (by decide)) (by rfl) T.m_law_take T.F_law_take.kp (aM T) .nil bJ (gA (aA (aB (pv 0)) (aA ge_int aE)) Γ))) (fun _ _=>rfl)) Γ))) aE) Γ))))
  (aG (aR (i:=4) nd rfl (Or.inl rfl) (aL (fun Γ=>aK G_law_take (hr.mono (by decide)) (by rfl) T.m_law_take T.F_law_take.kp (aM T) .nil bJ (gA (aA (aB (pv 0)) (aA (aS bG bH (cC cZ (fun Γ=>aY bQ (by rfl) T.n_len cG (gA (aA (aB (pv 3)) aE) Γ))) ge_int) aE)) Γ))))
  (aG (aR (i:=5) nd rfl (Or.inl rfl) (aL (fun Γ=>aK G_law_take (hr.mono (by decide)) (by rfl) T.m_law_take T.F_law_take.kp (aM T) .nil bJ (gA (aA (aB (pv 0)) (aA ge_int aE)) Γ))))
  (aG (aR (i:=6) nd rfl (Or.inl rfl) (aL (fun Γ=>aK G_law_take (hr.mono (by decide)) (by rfl) T.m_law_take T.F_law_take.kp (aM T) .nil bJ (gA (aA (aB (pv 0)) (aA ge_int aE)) Γ))))
  (aG (jC (eQ (jH hr.units) (gJ (neg:=false)) (aB (pv 6)) ge_int (cR _)) (aG (aC0 (own:=[7,8,9]) (aB9 (eJ (bD (by decide)) (eJ (bD (by decide)) (eJ (bD (by decide)) qQ)))) (fun Γ=>lU (gE (cS (eK (eK (aB (pv 2)) (gB (aL (fun Γ=>aK G_law_take (hr.mono (by decide)) (by rfl) T.m_law_take T.F_law_take.kp (aM T) .nil bJ (gA (aA (aB (pv 0)) (aA ge_int aE)) Γ)))) fZ) fZ (gB ge_int))) Γ) (lK (n:=3) K rfl rfl (eH (bB (i:=7) nd rfl (Or.inl rfl)) (eH (bB (i:=8) nd rfl (Or.inl rfl)) (eH (bB (i:=9) nd rfl (Or.inl rfl)) qF))))))
  (aG (aR (i:=10) nd rfl (Or.inl rfl) (gX (aA (cS (aB (pv 7))) (aA (cS (aS bG bH (aB (pv 7)) (aB (pv 8)))) (aA (cS (aB (pv 8))) (aA (cS (aS bG bH (aB (pv 8)) (aB (pv 9)))) aE))))))
  (aQ (bT (eK (aS bG bH (aB (pv 10)) (gX (aA (cS (aB (pv 9))) (aA (cS (aS bG bH (aB (pv 7)) (aB (pv 9)))) (aA (cS (aS bG bH (aS bG bH (aB (pv 7)) (aB (pv 8))) (aB (pv 9)))) (aA (cS (aS bG bH (aB (pv 9)) (aB (pv 8)))) aE)))))) fZ (gB (aB (pv 1)))))))) dJ)
  (aG (aR (i:=11) nd rfl (Or.inl rfl) (gX aE))
  (aG (aN6 (own:=[12]) (bD (by decide)) (fun Γ=>aL1 PassesOwn.never rfl (gI (zC (fun Γ=>lV (by rfl) T.n_range (gA (aA (aB (pv 1)) aE) Γ)) aY8) Γ) (bB (i:=12) nd rfl (Or.inl rfl))
  (gSs (aG (aR (i:=13) nd rfl (Or.inl rfl) (aS bG bH (aS bG bH (eK (aB (pv 3)) fZ (gB (aB (pv 4)))) (cM (aB (pv 2)) (aS iN fG (aS bG bH (aB (pv 5)) (aS fH fJ ge_int (aB (pv 12)))) ge_int) (fun _ _=>rfl))) (eK (aB (pv 3)) (gB (aB (pv 4))) fZ)))
  (aQ (yY (qP zI (fun Γ=>rY K (by rfl) PySem.F.plainAttrs_list PySem.F.slot_list_append PySem.F.type_list_append lZ (pv 11) (gA (aA (cS (aS bG bH (aB (pv 13)) (aS fH fJ fN (cC aO3 (fun Γ=>bC rP (by rfl) T.n_int qY (gA (aA (aB6 (pQ (jH hr.units) (gJ (neg:=false)) (aB (pv 6)) ge_int (cR _)) (aB5 (pQ (jH hr.units) (gJ (neg:=false)) (aS iN fG (aB (pv 12)) ge_int) ge_int (cR _)))) aE) Γ)))))) aE) Γ)))))) Γ)))
  (aG (aR (i:=14) nd rfl (Or.inl rfl) (gX (aA fN (aA fN (aA fN (aA fN (aA fN (aA fN aE))))))))
  (aG (aR (i:=14) nd rfl (Or.inl rfl) (aS bG bH (aB (pv 14)) (gX (aA fN (aA fN (aA fN (aA fN (aA fN aE))))))))
  (aG (aR (i:=13) nd rfl (Or.inl rfl) (cM (aB (pv 14)) (aL (fun Γ=>aK G_law_take (hr.mono (by decide)) (by rfl) T.m_law_take T.F_law_take.kp (aM T) .nil bJ (gA (aA (aB (pv 0)) (aA ge_int aE)) Γ))) (fun _ _=>rfl)))
  (aG (jC (GW.gt (bC6 (eQ (jH hr.units) (gJ (neg:=false)) (aL (fun Γ=>aK G_law_take (hr.mono (by decide)) (by rfl) T.m_law_take T.F_law_take.kp (aM T) .nil bJ (gA (aA (aB (pv 0)) (aA ge_int aE)) Γ))) ge_int (cR _)) (aN1 (eQ (aO8 hr.units) (bU1 (neg:=true)) (aB (pv 13)) (aB (pv 11)) (by with_unfolding_all rfl))))) (aQ (aO5 (k:=11) (fun Γ=>lU (gE (cS (aB (pv 13))) Γ) (aK5 (pv 11) (gE (aL (fun Γ=>aK G_law_take (hr.mono (by decide)) (by rfl) T.m_law_take T.F_law_take.kp (aM T) .nil bJ (gA (aA (aB (pv 0)) (aA (aB (pv 1)) aE)) Γ))) Γ) qJ)))) dJ)
  (aQ (bT (aB (pv 11))))))))))))))))
theorem yD(T:Txt K mg a)(G_law_take:FnOk P w K mg base CX0 1 a.law_take a.fd_law_take ["_law_box_here","_law_many"] (dsp 2 aF)):FnOk P w K mg base CX0 2 a.law_order a.fd_law_order ["_law_box_here","_law_things"] (dsp 2 bK):=by
 refine cE T.F_law_order kY (by decide) dY (fun cdv A outer s H E hr=>?_)
 have nd:=kY.nd
 unfold dY
 exact(aG (aR (i:=2) nd rfl (Or.inl rfl) (cC qV (fun Γ=>bC jZ (by rfl) T.n_list jK (gA (aA (aB (pv 1)) aE) Γ))))
  (aG (aR (i:=3) nd rfl (Or.inl rfl) (gX aE))
  (aG (aZ2 (fun Γ=>aV4 PassesOwn.never (gT (eQ aG4 kH (cC cZ (fun Γ=>aY bQ (by rfl) T.n_len cG (gA (aA (aB (pv 2)) aE) Γ))) ge_int (cR _)) Γ)
  (gSs (aQ (yY (qP zI (fun Γ=>rY K (by rfl) PySem.F.plainAttrs_list PySem.F.slot_list_append PySem.F.type_list_append lZ (pv 3) (gA (aA (cS (qP aO4 (fun Γ=>rY K (by rfl) PySem.F.plainAttrs_list PySem.F.slot_list_pop PySem.F.type_list_pop aW1 (pv 2) (gA (aA (cS (aL (fun Γ=>aK G_law_take (hr.mono (by decide)) (by rfl) T.m_law_take T.F_law_take.kp (aM T) .nil bJ (gA (aA (aB (pv 0)) (aA (cC cZ (fun Γ=>aY bQ (by rfl) T.n_len cG (gA (aA (aB (pv 2)) aE) Γ))) aE)) Γ)))) aE) Γ)))) aE) Γ))))) Γ)))
  (aQ (bT (aB (pv 3)))))))
theorem zY(T:Txt K mg a)(G_law_take:FnOk P w K mg base CX0 1 a.law_take a.fd_law_take ["_law_box_here","_law_many"] (dsp 2 aF)):FnOk P w K mg base CX0 2 a.law_rows a.fd_law_rows ["_law_box_here","_law_columns","_law_ceiling"] (dsp 3 dZ):=by
 refine cE T.F_law_rows nZ (by decide) eX (fun cdv A outer s H E hr=>?_)
 have nd:=nZ.nd
 unfold eX
 exact(aG (aR (i:=3) nd rfl (Or.inr rfl) (cM (gX (aA ge_int (aA ge_int (aA ge_int (aA ge_int aE))))) (aL (fun Γ=>aK G_law_take (hr.mono (by decide)) (by rfl) T.m_law_take T.F_law_take.kp (aM T) .nil bJ (gA (aA (aB (pv 0)) (aA ge_int aE)) Γ))) (fun _ _=>rfl)))
  (aG (aR (i:=4) nd rfl (Or.inl rfl) (aL (fun Γ=>aK G_law_take (hr.mono (by decide)) (by rfl) T.m_law_take T.F_law_take.kp (aM T) .nil bJ (gA (aA (aB (pv 0)) (aA (cM (gX (aA (cS (aS bG bH (aB (pv 2)) ge_int)) (aA ge_int aE))) (aL (fun Γ=>aK G_law_take (hr.mono (by decide)) (by rfl) T.m_law_take T.F_law_take.kp (aM T) .nil bJ (gA (aA (aB (pv 0)) (aA ge_int aE)) Γ))) (fun _ _=>rfl)) aE)) Γ))))
  (aQ (bT (cC eF (fun Γ=>bC cB (by rfl) T.n_tuple bA (gA (aA (cC dW (fun Γ=>jP (id:="sorted") (U:="set") (dA rfl (xW hr)) (by rfl) T.n_sorted eT (by rfl) T.n_set jL (gA (aA (cY (ow:=[5]) (bD (by decide)) (fun Γ=>cV (csc [5] (by kernel_rfl)) (gI (zC (fun Γ=>lV (by rfl) T.n_range (gA (aA (aB (pv 4)) aE) Γ)) aY8) Γ) (fun _ _ _ _=>(bB (i:=5) nd rfl (Or.inl rfl) (.inr rfl))) (bP (by decide)) (fun _ _ _ _=>cO) (fun _ _ _ _=>gE (cC eF (fun Γ=>bC cB (by rfl) T.n_tuple bA (gA (aA (cY (ow:=[6]) (bD (by decide)) (fun Γ=>cV (csc [6] (by kernel_rfl)) (gI (fB K (by rfl) (aB (pv 1))) Γ) (fun _ _ _ _=>(bB (i:=6) nd rfl (Or.inl rfl) (.inr rfl))) (bP (by decide)) (fun _ _ _ _=>cO) (fun _ _ _ _=>gE (cS (aL (fun Γ=>aK G_law_take (hr.mono (by decide)) (by rfl) T.m_law_take T.F_law_take.kp (aM T) .nil bJ (gA (aA (aB (pv 0)) (aA (aB (pv 3)) aE)) Γ)))) Γ))) aE) Γ))) Γ))) aE) Γ))) aE) Γ)))))))
theorem yE(T:Txt K mg a)(G_law_order:FnOk P w K mg base CX0 2 a.law_order a.fd_law_order ["_law_box_here","_law_things"] (dsp 2 bK))(G_law_take:FnOk P w K mg base CX0 1 a.law_take a.fd_law_take ["_law_box_here","_law_many"] (dsp 2 aF))(G_law_rows:FnOk P w K mg base CX0 2 a.law_rows a.fd_law_rows ["_law_box_here","_law_columns","_law_ceiling"] (dsp 3 dZ)):FnOk P w K mg base CX0 3 a.law_table a.fd_law_table ["_law_box_here","_law_names_here","_law_ceiling"] (dsp 3 dD):=by
 refine cE T.F_law_table kZ (by decide) eA (fun cdv A outer s H E hr=>?_)
 have nd:=kZ.nd
 unfold eA
 exact(aG (aR (i:=3) nd rfl (Or.inl rfl) (cC eF (fun Γ=>bC cB (by rfl) T.n_tuple bA (gA (aA (eK (aL (fun Γ=>aK G_law_order (hr.mono (by decide)) (by rfl) T.m_law_order T.F_law_order.kp (iY T) .nil bJ (gA (aA (aB (pv 0)) (aA (aB (pv 1)) aE)) Γ))) fZ (gB (aL (fun Γ=>aK G_law_take (hr.mono (by decide)) (by rfl) T.m_law_take T.F_law_take.kp (aM T) .nil bJ (gA (aA (aB (pv 0)) (aA (aS bG bH (cC cZ (fun Γ=>aY bQ (by rfl) T.n_len cG (gA (aA (aB (pv 1)) aE) Γ))) ge_int) aE)) Γ))))) aE) Γ))))
  (aQ (bT (aN4 (aA (cS (aB (pv 3))) (aA (cS (aL (fun Γ=>aK G_law_rows (hr.mono (by decide)) (by rfl) T.m_law_rows T.F_law_rows.kp (aI4 T) .nil bJ (gA (aA (aB (pv 0)) (aA (aB (pv 3)) (aA (aB (pv 2)) aE))) Γ)))) aE))))))
theorem yF(T:Txt K mg a):FnOk P w K mg base CX0 1 a.law_whole a.fd_law_whole ["_law_found"] (dsp 1 cA):=by
 refine cE T.F_law_whole lA (by decide) eB (fun cdv A outer s H E hr=>?_)
 have nd:=lA.nd
 unfold eB
 exact(aQ (bT (aB6 (pU (c:="int") K (by decide) (fun Γ=>aY (fP K (by rfl)) (by rfl) T.n_isinstance bV (dI (gE (aB (pv 0)) Γ) (dI (jW (v:=.ty "int") (by rfl) T.n_int qY rfl) lX)))) (aB5 (bT1 (pU (c:="bool") K (by decide) (fun Γ=>aY (fP K (by rfl)) (by rfl) T.n_isinstance bV (dI (gE (aB (pv 0)) Γ) (dI (jW (v:=.ty "bool") (by rfl) T.n_bool aQ6 rfl) lX)))))))))
theorem oS(T:Txt K mg a)(G_law_whole:FnOk P w K mg base CX0 1 a.law_whole a.fd_law_whole ["_law_found"] (dsp 1 cA)):FnOk P w K mg base CX0 2 a.law_is_table a.fd_law_is_table ["_law_found","_law_columns","_law_rows_here"] (dsp 3 aN):=by
 refine cE T.F_law_is_table hZ (by decide) cI (fun cdv A outer s H E hr=>?_)
 have nd:=hZ.nd
 unfold cI
 exact(aG (jC (GW.gt (aH6 (iQ (iP (pU (c:="tuple") K (by decide) (fun Γ=>aY (fP K (by rfl)) (by rfl) T.n_isinstance bV (dI (gE (aB (pv 0)) Γ) (dI (jW (v:=.ty "tuple") (by rfl) T.n_tuple bA rfl) lX)))))) (aH6 (eQ (aO7 hr.units) (gJ (neg:=true)) (cC cZ (fun Γ=>aY bQ (by rfl) T.n_len cG (gA (aA (aB (pv 0)) aE) Γ))) ge_int (cR _)) (aB4 (iQ (iP (pU (c:="tuple") K (by decide) (fun Γ=>aY (fP K (by rfl)) (by rfl) T.n_isinstance bV (dI (gE (cM (aB (pv 0)) ge_int (fun _ _=>rfl)) Γ) (dI (jW (v:=.ty "tuple") (by rfl) T.n_tuple bA rfl) lX)))))))))) (aQ (bT yU)) dJ)
  (aG (aN6 (own:=[3]) (bD (by decide)) (fun Γ=>aL1 PassesOwn.never rfl (gI (fB K (by rfl) (cM (aB (pv 0)) ge_int (fun _ _=>rfl))) Γ) (bB (i:=3) nd rfl (Or.inl rfl))
  (gSs (aQ (jC (GW.gt (aH6 (iQ (iP (pU (c:="tuple") K (by decide) (fun Γ=>aY (fP K (by rfl)) (by rfl) T.n_isinstance bV (dI (gE (aB (pv 3)) Γ) (dI (jW (v:=.ty "tuple") (by rfl) T.n_tuple bA rfl) lX)))))) (aB4 (iQ (iP (cC aO2 (fun Γ=>aY (sF K (by rfl) (by rfl)) (by rfl) T.n_all aD3 (gA (aA (cY (ow:=[4]) (bD (by decide)) (fun Γ=>cV (csc [4] (by kernel_rfl)) (gI (fB K (by rfl) (aB (pv 3))) Γ) (fun _ _ _ _=>(bB (i:=4) nd rfl (Or.inl rfl) (.inr rfl))) (bP (by decide)) (fun _ _ _ _=>cO) (fun _ _ _ _=>gE (cS (aL (fun Γ=>aK G_law_whole (hr.mono (by decide)) (by rfl) T.m_law_whole T.F_law_whole.kp (oC T) .nil bJ (gA (aA (aB (pv 4)) aE) Γ)))) Γ))) aE) Γ)))))))) (aQ (bT yU)) dJ)) Γ)))
  (aQ (bT (aB6 (pQ (jH hr.units) (gJ (neg:=false)) (cM (aB (pv 0)) ge_int (fun _ _=>rfl)) (cC eF (fun Γ=>bC cB (by rfl) T.n_tuple bA (gA (aA (aB (pv 1)) aE) Γ))) (cR _)) (aB5 (pQ (jH hr.units) (gJ (neg:=false)) (cM (aB (pv 0)) ge_int (fun _ _=>rfl)) (cC eF (fun Γ=>bC cB (by rfl) T.n_tuple bA (gA (aA (cC dW (fun Γ=>jP (id:="sorted") (U:="set") (dA rfl (xW hr)) (by rfl) T.n_sorted eT (by rfl) T.n_set jL (gA (aA (aB (pv 2)) aE) Γ))) aE) Γ))) (cR _))))))))
theorem aT1(T:Txt K mg a):FnOk P w K mg base CX0 1 a.law_at a.fd_law_at ["_law_columns","_law_row","_law_some"] (dsp 3 fT):=by
 refine cE T.F_law_at xD (by decide) iC (fun cdv A outer s H E hr=>?_)
 have nd:=xD.nd
 unfold iC
 exact(aQ (bT (cC eF (fun Γ=>bC cB (by rfl) T.n_tuple bA (gA (aA (cY (ow:=[3]) (bD (by decide)) (fun Γ=>cV (csc [3] (by kernel_rfl)) (gI (fB K (by rfl) (aB (pv 2))) Γ) (fun _ _ _ _=>(bB (i:=3) nd rfl (Or.inl rfl) (.inr rfl))) (bP (by decide)) (fun _ _ _ _=>cO) (fun _ _ _ _=>gE (cM (aB (pv 1)) (aJ1 iK (fun Γ=>qD PySem.F.slot_tuple_index PySem.F.type_tuple_index fR (gE (aB (pv 0)) Γ) (gA (aA (aB (pv 3)) aE) Γ))) (fun _ _=>rfl)) Γ))) aE) Γ)))))
theorem yG(T:Txt K mg a):FnOk P w K mg base CX0 1 a.places_of a.fd_places_of ["columns","some"] (dsp 2 dE):=by
 refine cE T.F_places_of lB (by decide) eC (fun cdv A outer s H E hr=>?_)
 have nd:=lB.nd
 unfold eC
 exact(aQ (bT (cY (ow:=[2]) (bD (by decide)) (fun Γ=>cV (csc [2] (by kernel_rfl)) (gI (fB K (by rfl) (aB (pv 1))) Γ) (fun _ _ _ _=>(bB (i:=2) nd rfl (Or.inl rfl) (.inr rfl))) (bP (by decide)) (fun _ _ _ _=>cO) (fun _ _ _ _=>gE (cS (aJ1 iK (fun Γ=>qD PySem.F.slot_tuple_index PySem.F.type_tuple_index fR (gE (aB (pv 0)) Γ) (gA (aA (aB (pv 2)) aE) Γ)))) Γ)))))
theorem zZ(T:Txt K mg a):FnOk P w K mg base CX0 1 a.table_of a.fd_table_of ["columns","rows"] (dsp 2 bX):=by
 refine cE T.F_table_of oA (by decide) eY (fun cdv A outer s H E hr=>?_)
 have nd:=oA.nd
 unfold eY
 exact(aQ (bT (aN4 (aA (cC eF (fun Γ=>bC cB (by rfl) T.n_tuple bA (gA (aA (aB (pv 0)) aE) Γ))) (aA (cC eF (fun Γ=>bC cB (by rfl) T.n_tuple bA (gA (aA (cC dW (fun Γ=>jP (id:="sorted") (U:="set") (dA rfl (xW hr)) (by rfl) T.n_sorted eT (by rfl) T.n_set jL (gA (aA (aB (pv 1)) aE) Γ))) aE) Γ))) aE)))))
theorem aT2(T:Txt K mg a):FnOk P w K mg base CX0 1 a.picked a.fd_picked ["row","places"] (dsp 2 fU):=by
 refine cE T.F_picked xE (by decide) iD (fun cdv A outer s H E hr=>?_)
 have nd:=xE.nd
 unfold iD
 exact(aQ (bT (cC eF (fun Γ=>bC cB (by rfl) T.n_tuple bA (gA (aA (cY (ow:=[2]) (bD (by decide)) (fun Γ=>cV (csc [2] (by kernel_rfl)) (gI (fB K (by rfl) (aB (pv 1))) Γ) (fun _ _ _ _=>(bB (i:=2) nd rfl (Or.inl rfl) (.inr rfl))) (bP (by decide)) (fun _ _ _ _=>cO) (fun _ _ _ _=>gE (cM (aB (pv 0)) (aB (pv 2)) (fun _ _=>rfl)) Γ))) aE) Γ)))))
theorem bW6(T:Txt K mg a)(G_places_of:FnOk P w K mg base CX0 1 a.places_of a.fd_places_of ["columns","some"] (dsp 2 dE))(G_table_of:FnOk P w K mg base CX0 1 a.table_of a.fd_table_of ["columns","rows"] (dsp 2 bX))(G_picked:FnOk P w K mg base CX0 1 a.picked a.fd_picked ["row","places"] (dsp 2 fU)):FnOk P w K mg base CX0 2 a.cut a.fd_cut ["table","columns"] (dsp 2 oQ):=by
 refine cE T.F_cut bD4 (by decide) yA (fun cdv A outer s H E hr=>?_)
 have nd:=bD4.nd
 unfold yA
 exact(aG (aR (i:=2) nd rfl (Or.inr rfl) (aL (fun Γ=>aK G_places_of (hr.mono (by decide)) (by rfl) T.m_places_of T.F_places_of.kp (zL T) .nil bJ (gA (aA (cM (aB (pv 0)) ge_int (fun _ _=>rfl)) (aA (aB (pv 1)) aE)) Γ))))
  (aQ (bT (aL (fun Γ=>aK G_table_of (hr.mono (by decide)) (by rfl) T.m_table_of T.F_table_of.kp (qA T) .nil bJ (gA (aA (aB (pv 1)) (aA (cY (ow:=[3]) (bD (by decide)) (fun Γ=>cV (csc [3] (by kernel_rfl)) (gI (fB K (by rfl) (cM (aB (pv 0)) ge_int (fun _ _=>rfl))) Γ) (fun _ _ _ _=>(bB (i:=3) nd rfl (Or.inl rfl) (.inr rfl))) (bP (by decide)) (fun _ _ _ _=>cO) (fun _ _ _ _=>gE (cS (aL (fun Γ=>aK G_picked (hr.mono (by decide)) (by rfl) T.m_picked T.F_picked.kp (aZ6 T) .nil bJ (gA (aA (aB (pv 3)) (aA (aB (pv 2)) aE)) Γ)))) Γ))) aE)) Γ))))))
theorem lJ(T:Txt K mg a)(G_law_is_table:FnOk P w K mg base CX0 2 a.law_is_table a.fd_law_is_table ["_law_found","_law_columns","_law_rows_here"] (dsp 3 aN))(G_law_at:FnOk P w K mg base CX0 1 a.law_at a.fd_law_at ["_law_columns","_law_row","_law_some"] (dsp 3 fT))(G_cut:FnOk P w K mg base CX0 2 a.cut a.fd_cut ["table","columns"] (dsp 2 oQ)):FnOk P w K mg base CX0 3 a.law_cut_right a.fd_law_cut_right ["_law_table_here","_law_some"] (dsp 2 aU):=by
 refine cE T.F_law_cut_right gL (by decide) cD (fun cdv A outer s H E hr=>?_)
 have nd:=gL.nd
 unfold cD
 exact(aG (aC0 (own:=[2,3]) (aB9 (eJ (bD (by decide)) (eJ (bD (by decide)) qQ))) (fun Γ=>lU (gE (cS (aB (pv 0))) Γ) (lK (n:=2) K rfl rfl (eH (bB (i:=2) nd rfl (Or.inr rfl)) (eH (bB (i:=3) nd rfl (Or.inl rfl)) qF)))))
  (aQ (bT (aL (fun Γ=>aK G_law_is_table (hr.mono (by decide)) (by rfl) T.m_law_is_table T.F_law_is_table.kp (fK T) .nil bJ (gA (aA (aL (fun Γ=>aK G_cut (hr.mono (by decide)) (by rfl) T.m_cut T.F_cut.kp (cC6 T) .nil bJ (gA (aA (aB (pv 0)) (aA (aB (pv 1)) aE)) Γ))) (aA (aB (pv 1)) (aA (cY (ow:=[4]) (bD (by decide)) (fun Γ=>cV (csc [4] (by kernel_rfl)) (gI (fB K (by rfl) (aB (pv 3))) Γ) (fun _ _ _ _=>(bB (i:=4) nd rfl (Or.inl rfl) (.inr rfl))) (bP (by decide)) (fun _ _ _ _=>cO) (fun _ _ _ _=>gE (cS (aL (fun Γ=>aK G_law_at (hr.mono (by decide)) (by rfl) T.m_law_at T.F_law_at.kp (aZ5 T) .nil bJ (gA (aA (aB (pv 2)) (aA (aB (pv 4)) (aA (aB (pv 1)) aE))) Γ)))) Γ))) aE))) Γ))))))
theorem yH(T:Txt K mg a):FnOk P w K mg base CX0 1 a.values_in a.fd_values_in ["table","column"] (dsp 2 cK):=by
 refine cE T.F_values_in lC (by decide) eD (fun cdv A outer s H E hr=>?_)
 have nd:=lC.nd
 unfold eD
 exact(aG (aR (i:=2) nd rfl (Or.inr rfl) (aJ1 iK (fun Γ=>qD PySem.F.slot_tuple_index PySem.F.type_tuple_index fR (gE (cM (aB (pv 0)) ge_int (fun _ _=>rfl)) Γ) (gA (aA (aB (pv 1)) aE) Γ))))
  (aQ (bT (cC dW (fun Γ=>jP (id:="sorted") (U:="set") (dA rfl (xW hr)) (by rfl) T.n_sorted eT (by rfl) T.n_set jL (gA (aA (cY (ow:=[3]) (bD (by decide)) (fun Γ=>cV (csc [3] (by kernel_rfl)) (gI (fB K (by rfl) (cM (aB (pv 0)) ge_int (fun _ _=>rfl))) Γ) (fun _ _ _ _=>(bB (i:=3) nd rfl (Or.inl rfl) (.inr rfl))) (bP (by decide)) (fun _ _ _ _=>cO) (fun _ _ _ _=>gE (cM (aB (pv 3)) (aB (pv 2)) (fun _ _=>rfl)) Γ))) aE) Γ))))))
theorem bL2(T:Txt K mg a):FnOk P w K mg base CX0 1 a.kept a.fd_kept ["table","column","value"] (dsp 3 jU):=by
 refine cE T.F_kept aQ7 (by decide) oR (fun cdv A outer s H E hr=>?_)
 have nd:=aQ7.nd
 unfold oR
 exact(aG (aR (i:=3) nd rfl (Or.inr rfl) (aJ1 iK (fun Γ=>qD PySem.F.slot_tuple_index PySem.F.type_tuple_index fR (gE (cM (aB (pv 0)) ge_int (fun _ _=>rfl)) Γ) (gA (aA (aB (pv 1)) aE) Γ))))
  (aQ (bT (aN4 (aA (cM (aB (pv 0)) ge_int (fun _ _=>rfl)) (aA (cC eF (fun Γ=>bC cB (by rfl) T.n_tuple bA (gA (aA (cY (ow:=[4]) (bD (by decide)) (fun Γ=>cV (csc [4] (by kernel_rfl)) (gI (fB K (by rfl) (cM (aB (pv 0)) ge_int (fun _ _=>rfl))) Γ) (fun _ _ _ _=>(bB (i:=4) nd rfl (Or.inl rfl) (.inr rfl))) (bP (by decide)) (fun _ _ _ _=>(aC4 (eQ (jH hr.units) (gJ (neg:=false)) (cM (aB (pv 4)) (aB (pv 3)) (fun _ _=>rfl)) (aB (pv 2)) (cR _)))) (fun _ _ _ _=>gE (cS (aB (pv 4))) Γ))) aE) Γ))) aE))))))
theorem kO(T:Txt K mg a)(G_values_in:FnOk P w K mg base CX0 1 a.values_in a.fd_values_in ["table","column"] (dsp 2 cK))(G_law_whole:FnOk P w K mg base CX0 1 a.law_whole a.fd_law_whole ["_law_found"] (dsp 1 cA))(G_law_is_table:FnOk P w K mg base CX0 2 a.law_is_table a.fd_law_is_table ["_law_found","_law_columns","_law_rows_here"] (dsp 3 aN))(G_kept:FnOk P w K mg base CX0 1 a.kept a.fd_kept ["table","column","value"] (dsp 3 jU)):FnOk P w K mg base CX0 3 a.law_kept_right a.fd_law_kept_right ["_law_table_here","_law_column","_law_value"] (dsp 3 bR):=by
 refine cE T.F_law_kept_right fQ (by decide) bW (fun cdv A outer s H E hr=>?_)
 have nd:=fQ.nd
 unfold bW
 exact(aG (aC0 (own:=[3,4]) (aB9 (eJ (bD (by decide)) (eJ (bD (by decide)) qQ))) (fun Γ=>lU (gE (cS (aB (pv 0))) Γ) (lK (n:=2) K rfl rfl (eH (bB (i:=3) nd rfl (Or.inl rfl)) (eH (bB (i:=4) nd rfl (Or.inl rfl)) qF)))))
  (aG (aR (i:=5) nd rfl (Or.inr rfl) (aJ1 iK (fun Γ=>qD PySem.F.slot_tuple_index PySem.F.type_tuple_index fR (gE (aB (pv 3)) Γ) (gA (aA (aB (pv 1)) aE) Γ))))
  (aG (aR (i:=6) nd rfl (Or.inl rfl) (cC dW (fun Γ=>jP (id:="sorted") (U:="set") (dA rfl (xW hr)) (by rfl) T.n_sorted eT (by rfl) T.n_set jL (gA (aA (cY (ow:=[8]) (bD (by decide)) (fun Γ=>cV (csc [8] (by kernel_rfl)) (gI (fB K (by rfl) (aB (pv 4))) Γ) (fun _ _ _ _=>(bB (i:=8) nd rfl (Or.inl rfl) (.inr rfl))) (bP (by decide)) (fun _ _ _ _=>cO) (fun _ _ _ _=>gE (cM (aB (pv 8)) (aB (pv 5)) (fun _ _=>rfl)) Γ))) aE) Γ))))
  (aG (aR (i:=7) nd rfl (Or.inl rfl) (aL (fun Γ=>aK G_values_in (hr.mono (by decide)) (by rfl) T.m_values_in T.F_values_in.kp (oE T) .nil bJ (gA (aA (aB (pv 0)) (aA (aB (pv 1)) aE)) Γ))))
  (aG (jC (GW.gt (aH6 (iQ (iP (pU (c:="list") K (by decide) (fun Γ=>aY (fP K (by rfl)) (by rfl) T.n_isinstance bV (dI (gE (aB (pv 7)) Γ) (dI (jW (v:=.ty "list") (by rfl) T.n_list jK rfl) lX)))))) (aH6 (eQ (aO7 hr.units) (gJ (neg:=true)) (aB (pv 7)) (aB (pv 6)) (cR _)) (aB4 (iQ (iP (cC aO2 (fun Γ=>aY (sF K (by rfl) (by rfl)) (by rfl) T.n_all aD3 (gA (aA (cY (ow:=[9]) (bD (by decide)) (fun Γ=>cV (csc [9] (by kernel_rfl)) (gI (fB K (by rfl) (aB (pv 7))) Γ) (fun _ _ _ _=>(bB (i:=9) nd rfl (Or.inl rfl) (.inr rfl))) (bP (by decide)) (fun _ _ _ _=>cO) (fun _ _ _ _=>gE (cS (aL (fun Γ=>aK G_law_whole (hr.mono (by decide)) (by rfl) T.m_law_whole T.F_law_whole.kp (oC T) .nil bJ (gA (aA (aB (pv 9)) aE) Γ)))) Γ))) aE) Γ))))))))) (aQ (bT yU)) dJ)
  (aG (yY (qP zI (fun Γ=>rY K (by rfl) PySem.F.plainAttrs_list PySem.F.slot_list_append PySem.F.type_list_append lZ (pv 7) (gA (aA ge_int aE) Γ))))
  (aG (jC (iQ (iP (aL (fun Γ=>aK G_law_is_table (hr.mono (by decide)) (by rfl) T.m_law_is_table T.F_law_is_table.kp (fK T) .nil bJ (gA (aA (aL (fun Γ=>aK G_kept (hr.mono (by decide)) (by rfl) T.m_kept T.F_kept.kp (bV5 T) .nil bJ (gA (aA (aB (pv 0)) (aA (aB (pv 1)) (aA (aB (pv 2)) aE))) Γ))) (aA (aB (pv 3)) (aA (cY (ow:=[8]) (bD (by decide)) (fun Γ=>cV (csc [8] (by kernel_rfl)) (gI (fB K (by rfl) (aB (pv 4))) Γ) (fun _ _ _ _=>(bB (i:=8) nd rfl (Or.inl rfl) (.inr rfl))) (bP (by decide)) (fun _ _ _ _=>(aC4 (eQ (jH hr.units) (gJ (neg:=false)) (cM (aB (pv 8)) (aB (pv 5)) (fun _ _=>rfl)) (aB (pv 2)) (cR _)))) (fun _ _ _ _=>gE (cS (aB (pv 8))) Γ))) aE))) Γ))))) (aQ (bT yU)) dJ)
  (aQ (bT (pQ (jH hr.units) (gJ (neg:=false)) (aL (fun Γ=>aK G_values_in (hr.mono (by decide)) (by rfl) T.m_values_in T.F_values_in.kp (oE T) .nil bJ (gA (aA (aB (pv 0)) (aA (aB (pv 1)) aE)) Γ))) (aB (pv 6)) (cR _)))))))))))
theorem bW7(T:Txt K mg a)(G_law_box:FnOk P w K mg base CX0 1 a.law_box a.fd_law_box ["_law_script","_law_k"] (dsp 2 cH))(G_law_names:FnOk P w K mg base CX0 2 a.law_names a.fd_law_names ["_law_box_here","_law_many"] (dsp 2 dB))(G_law_table:FnOk P w K mg base CX0 3 a.law_table a.fd_law_table ["_law_box_here","_law_names_here","_law_ceiling"] (dsp 3 dD))(G_law_order:FnOk P w K mg base CX0 2 a.law_order a.fd_law_order ["_law_box_here","_law_things"] (dsp 2 bK))(G_law_take:FnOk P w K mg base CX0 1 a.law_take a.fd_law_take ["_law_box_here","_law_many"] (dsp 2 aF))(G_law_cut_right:FnOk P w K mg base CX0 3 a.law_cut_right a.fd_law_cut_right ["_law_table_here","_law_some"] (dsp 2 aU))(G_law_kept_right:FnOk P w K mg base CX0 3 a.law_kept_right a.fd_law_kept_right ["_law_table_here","_law_column","_law_value"] (dsp 3 bR))(G_law_is_table:FnOk P w K mg base CX0 2 a.law_is_table a.fd_law_is_table ["_law_found","_law_columns","_law_rows_here"] (dsp 3 aN))(G_table_of:FnOk P w K mg base CX0 1 a.table_of a.fd_table_of ["columns","rows"] (dsp 2 bX)):FnOk P w K mg base CX0 4 a.law a.fd_law ["_law_script"] (dsp 1 kM):=by
 refine cE T.F_law bD5 (by decide) yB (fun cdv A outer s H E hr=>?_)
 have nd:=bD5.nd
 unfold yB
 exact(aG (aR (i:=1) nd rfl (Or.inl rfl) (aL (fun Γ=>aK G_law_box (hr.mono (by decide)) (by rfl) T.m_law_box T.F_law_box.kp (oB T) .nil bJ (gA (aA (aB (pv 0)) (aA ge_int aE)) Γ))))
  (aG (aR (i:=2) nd rfl (Or.inl rfl) (aL (fun Γ=>aK G_law_names (hr.mono (by decide)) (by rfl) T.m_law_names T.F_law_names.kp (zJ T) .nil bJ (gA (aA (aB (pv 1)) (aA ge_int aE)) Γ))))
  (aG (aR (i:=3) nd rfl (Or.inl rfl) (aL (fun Γ=>aK G_law_table (hr.mono (by decide)) (by rfl) T.m_law_table T.F_law_table.kp (zK T) .nil bJ (gA (aA (aL (fun Γ=>aK G_law_box (hr.mono (by decide)) (by rfl) T.m_law_box T.F_law_box.kp (oB T) .nil bJ (gA (aA (aB (pv 0)) (aA ge_int aE)) Γ))) (aA (aB (pv 2)) (aA ge_int aE))) Γ))))
  (aG (aC0 (own:=[4,5]) (aB9 (eJ (bD (by decide)) (eJ (bD (by decide)) qQ))) (fun Γ=>lU (gE (cS (aB (pv 3))) Γ) (lK (n:=2) K rfl rfl (eH (bB (i:=4) nd rfl (Or.inl rfl)) (eH (bB (i:=5) nd rfl (Or.inl rfl)) qF)))))
  (aG (aR (i:=6) nd rfl (Or.inl rfl) (cC eF (fun Γ=>bC cB (by rfl) T.n_tuple bA (gA (aA (eK (aL (fun Γ=>aK G_law_order (hr.mono (by decide)) (by rfl) T.m_law_order T.F_law_order.kp (iY T) .nil bJ (gA (aA (aB (pv 1)) (aA (aB (pv 4)) aE)) Γ))) fZ (gB (aL (fun Γ=>aK G_law_take (hr.mono (by decide)) (by rfl) T.m_law_take T.F_law_take.kp (aM T) .nil bJ (gA (aA (aB (pv 1)) (aA (aS bG bH (cC cZ (fun Γ=>aY bQ (by rfl) T.n_len cG (gA (aA (aB (pv 4)) aE) Γ))) ge_int) aE)) Γ))))) aE) Γ))))
  (aG (jC (iQ (iP (aL (fun Γ=>aK G_law_cut_right (hr.mono (by decide)) (by rfl) T.m_law_cut_right T.F_law_cut_right.kp (eU T) .nil bJ (gA (aA (aB (pv 3)) (aA (aB (pv 6)) aE)) Γ))))) (aQ (bT yU)) dJ)
  (aG (jC (eQ aG4 kH (cC cZ (fun Γ=>aY bQ (by rfl) T.n_len cG (gA (aA (aB (pv 4)) aE) Γ))) ge_int (cR _)) (aG (aR (i:=7) nd rfl (Or.inl rfl) (cM (aB (pv 4)) (aL (fun Γ=>aK G_law_take (hr.mono (by decide)) (by rfl) T.m_law_take T.F_law_take.kp (aM T) .nil bJ (gA (aA (aB (pv 1)) (aA (cC cZ (fun Γ=>aY bQ (by rfl) T.n_len cG (gA (aA (aB (pv 4)) aE) Γ))) aE)) Γ))) (fun _ _=>rfl)))
  (aG (aR (i:=8) nd rfl (Or.inl rfl) (aL (fun Γ=>aK G_law_take (hr.mono (by decide)) (by rfl) T.m_law_take T.F_law_take.kp (aM T) .nil bJ (gA (aA (aB (pv 1)) (aA (cM (gX (aA ge_int (aA ge_int aE))) (aL (fun Γ=>aK G_law_take (hr.mono (by decide)) (by rfl) T.m_law_take T.F_law_take.kp (aM T) .nil bJ (gA (aA (aB (pv 1)) (aA ge_int aE)) Γ))) (fun _ _=>rfl)) aE)) Γ))))
  (aG (jC (GW.gt (bC6 (eQ aG4 kH (cC cZ (fun Γ=>aY bQ (by rfl) T.n_len cG (gA (aA (aB (pv 5)) aE) Γ))) ge_int (cR _)) (aN1 (eQ aG4 kH (aL (fun Γ=>aK G_law_take (hr.mono (by decide)) (by rfl) T.m_law_take T.F_law_take.kp (aM T) .nil bJ (gA (aA (aB (pv 1)) (aA ge_int aE)) Γ))) ge_int (cR _))))) (aQ (aR (i:=8) nd rfl (Or.inl rfl) (cM (cM (aB (pv 5)) (aL (fun Γ=>aK G_law_take (hr.mono (by decide)) (by rfl) T.m_law_take T.F_law_take.kp (aM T) .nil bJ (gA (aA (aB (pv 1)) (aA (cC cZ (fun Γ=>aY bQ (by rfl) T.n_len cG (gA (aA (aB (pv 5)) aE) Γ))) aE)) Γ))) (fun _ _=>rfl)) (aJ1 iK (fun Γ=>qD PySem.F.slot_tuple_index PySem.F.type_tuple_index fR (gE (aB (pv 4)) Γ) (gA (aA (aB (pv 7)) aE) Γ))) (fun _ _=>rfl)))) dJ)
  (aQ (jC (iQ (iP (aL (fun Γ=>aK G_law_kept_right (hr.mono (by decide)) (by rfl) T.m_law_kept_right T.F_law_kept_right.kp (lH T) .nil bJ (gA (aA (aB (pv 3)) (aA (aB (pv 7)) (aA (aB (pv 8)) aE))) Γ))))) (aQ (bT yU)) dJ))))) dJ)
  (aG (aR (i:=9) nd rfl (Or.inl rfl) (aL (fun Γ=>aK G_law_order (hr.mono (by decide)) (by rfl) T.m_law_order T.F_law_order.kp (iY T) .nil bJ (gA (aA (aL (fun Γ=>aK G_law_box (hr.mono (by decide)) (by rfl) T.m_law_box T.F_law_box.kp (oB T) .nil bJ (gA (aA (aB (pv 0)) (aA ge_int aE)) Γ))) (aA (eK (aS bG bH (aB (pv 5)) (eK (aB (pv 5)) fZ (gB (aL (fun Γ=>aK G_law_take (hr.mono (by decide)) (by rfl) T.m_law_take T.F_law_take.kp (aM T) .nil bJ (gA (aA (aB (pv 1)) (aA (aS bG bH (cC cZ (fun Γ=>aY bQ (by rfl) T.n_len cG (gA (aA (aB (pv 5)) aE) Γ))) ge_int) aE)) Γ)))))) fZ (gB ge_int)) aE)) Γ))))
  (aG (aN6 (own:=[10]) (bD (by decide)) (fun Γ=>aL1 PassesOwn.never rfl (gI (fB K (by rfl) (gX (aA (cS (cC qV (fun Γ=>bC jZ (by rfl) T.n_list jK (gA (aA (aB (pv 9)) aE) Γ)))) (aA (cC eF (fun Γ=>bC cB (by rfl) T.n_tuple bA (gA (aA (aB (pv 9)) aE) Γ))) aE)))) Γ) (bB (i:=10) nd rfl (Or.inl rfl))
  (gSs (aQ (jC (GW.gt (aH6 (iQ (iP (aL (fun Γ=>aK G_law_is_table (hr.mono (by decide)) (by rfl) T.m_law_is_table T.F_law_is_table.kp (fK T) .nil bJ (gA (aA (aL (fun Γ=>aK G_table_of (hr.mono (by decide)) (by rfl) T.m_table_of T.F_table_of.kp (qA T) .nil bJ (gA (aA (aB (pv 4)) (aA (aB (pv 10)) aE)) Γ))) (aA (aB (pv 4)) (aA (aB (pv 5)) aE))) Γ))))) (aB4 (eQ (aO7 hr.units) (gJ (neg:=true)) (cC qV (fun Γ=>bC jZ (by rfl) T.n_list jK (gA (aA (aB (pv 10)) aE) Γ))) (aB (pv 9)) (cR _))))) (aQ (bT yU)) dJ)) Γ)))
  (aQ (bT (aB6 (aL (fun Γ=>aK G_law_cut_right (hr.mono (by decide)) (by rfl) T.m_law_cut_right T.F_law_cut_right.kp (eU T) .nil bJ (gA (aA (aB (pv 3)) (aA (aB (pv 6)) aE)) Γ))) (aB5 (aL (fun Γ=>aK G_law_cut_right (hr.mono (by decide)) (by rfl) T.m_law_cut_right T.F_law_cut_right.kp (eU T) .nil bJ (gA (aA (aB (pv 3)) (aA (aB (pv 4)) aE)) Γ))))))))))))))))
end
open PySem L2 Dv
local macro_rules | `(tactic| walk_at "dx")=>`(tactic| simp only[↓bU5,↓sK,↓sL,↓sM,↓sN,↓sO,↓sP,↓sQ,↓sR,↓sS,↓sT,↓sU,↓sV,↓sW,↓sX,↓sY,↓sZ,↓aP1,↓tE,↓mG,↓mH,↓mI,↓tF,↓tG,↓mJ,↓mK,↓mL,↓tH,↓tJ,↓aP2,↓tK,↓tL,↓aP3,↓tM,↓tN,↓tO,↓tP,↓tQ,↓mM,↓mO,↓tR,↓tS,↓tT,↓tU,↓tV,↓mP,↓tW,↓mQ,↓tX,↓tY,↓tZ,↓uA,↓uB,↓uC,↓uD,↓uE,↓mR,↓uF,↓uG,↓uH,↓uI,↓uJ,↓uK,↓uL,↓uM,↓uN,↓uO,↓aP4,↓mS,↓jI,↓mT,↓uP,↓mU,↓vD,↓vE,↓vF,↓vG,↓vH,↓vI,↓vJ,↓vK,↓vL,↓oK,↓aP5,↓vM,↓nE,↓jN,↓iA,↓xJ,↓kI,↓aS6,↓xV,↓jS,↓wU,↓wV,↓wW,↓wX,↓wY,↓wZ,↓xA,↓xB,↓vN,↓nG,↓nH,↓nJ,↓vO,↓vP,↓vQ,↓vR,↓vS,↓aP7,↓aP8,↓aP9,↓aQ0,↓vT,↓vV,↓vW,↓nK,↓nM,↓vX,↓nO,↓vY,↓vZ,↓nP,↓jJ,↓wA,↓nQ,↓aQ1,↓vU,↓wB,↓wC,↓wD,↓wE,↓aQ2,↓wG,↓bV2,↓wH,↓wI,↓wF,↓bE,wN,wO,wP,aI3,aQ3,Int.reducePow,Int.reduceNeg,Int.reduceLT,Int.reduceLE,Nat.reducePow,Nat.reduceLT,Int.reduceToNat,Nat.reduceLeDiff,↓wJ,↓wK,↓wL,↓wM,wS,wQ,aQ4,wR,↓uQ,↓uR,↓uT,↓uU,↓uV,↓uW,↓uX,↓uY,↓uZ,↓mV,↓mW,↓mX,↓mY,↓vA,↓vB,↓vC,mZ,nA,nB,nD,List.set_cons_zero,List.set_cons_succ,dG,aJ8,List.length_cons,List.length_nil,Nat.reduceAdd,Nat.zero_add,true_and,and_true,and_self,Bool.not_false,Bool.not_true,Bool.false_eq_true,Bool.true_and,Bool.and_true,Bool.or_false,↓reduceIte,decide_eq_true_eq])
theorem sl2:(2<=sizeLine):=by decide
theorem bO{a b m:Int}(h:0 < m)(h2:m < 18446744073709551616){K:Res->List Sl->Prop}(k:∀ d a' b',0<=d->d < m->K (.val (.int d)) [⟨.par,.lst [.int a',.int b']⟩,⟨.val,.int m⟩]):CK aF [⟨.par,.lst [.int a,.int b]⟩,⟨.val,.int m⟩] K:=by
 unfold aF
 rw[dH]
 show RS eW [_,_,none,none] _
 unfold eW
 walk_at "dx"
 rw[aI3 h h2]
 split
 ·exact⟨h,True.intro,k _ _ _ (Int.emod_nonneg _ (by omega)) (Int.emod_lt_of_pos _ h)⟩
 ·exact⟨h,k _ _ _ (Int.emod_nonneg _ (by omega)) (Int.emod_lt_of_pos _ h)⟩
theorem aT3{ns:List Int}{i:Int}(h0:0<=i)(h1:i < (ns.length:Int)):∃ c,atI (ns.map D.int) i=some (.int c):=by
 obtain⟨c,hc⟩:=aM5 (ys:=ns) h0 h1
 exact⟨c,by rw[yS,hc];rfl⟩
theorem aT4{ns:List Int}{n:Int}(h0:0<=n)(h1:n < 1000){K:Res->List Sl->Prop}(k:∀ a b,K (.own (.lst [.int a,.int b])) [⟨.val,.lst (ns.map D.int)⟩,⟨.val,.int n⟩]):CK cH [⟨.val,.lst (ns.map D.int)⟩,⟨.val,.int n⟩] K:=by
 unfold cH
 rw[dH]
 show RS fS [_,_,none,none] _
 unfold fS
 walk_at "dx"
 split
 ·rename_i hc
  obtain⟨c,hc⟩:=aT3 (ns:=ns) h0 (by simpa using hc)
  rw[hc]
  walk_at "dx"
  exact⟨sl2,k _ _⟩
 ·split
  ·rename_i hc
   refine⟨hc,?_⟩
   obtain⟨c,hc⟩:=aT3 (ns:=ns) (i:=n % ((ns.map D.int).length:Int)) (Int.emod_nonneg _ (by omega)) (by have:=Int.emod_lt_of_pos n hc;simpa using this)
   rw[hc]
   walk_at "dx"
   exact⟨sl2,k _ _⟩
  ·exact⟨sl2,k _ _⟩
theorem rH{lo:Int}{n i:Nat}{d:D}(h:(aJ7 lo n)[i]? = some d):i < n/\d=.int (lo+i):=by
 unfold aJ7 at h
 rw[List.getElem?_map]at h
 cases e:(List.range n)[i]? with
 | none=>rw[e]at h;cases h
 | some k=>
   rw[e]at h
   obtain⟨hi,hk⟩:=List.getElem?_eq_some_iff.mp e
   rw[List.length_range]at hi
   rw[List.getElem_range]at hk
   subst hk
   exact⟨hi,(Option.some.inj h).symm⟩
theorem gF(lo:Int)(n:Nat):(aJ7 lo n).length=n:=by simp[aJ7]
theorem yR{α:Type}{l:List α}{i:Int}{c:α}(h:atI l i=some c):c∈l:=by
 unfold atI at h
 obtain⟨j,_,h2⟩:=aC h
 exact List.mem_of_getElem? h2
theorem bW8{l:List D}{d:Int}(h0:0<=d)(h1:d < (l.length:Int))(h2:d < 9223372036854775808){K:D×D->Prop}(k:∀ y r,(y::r).Perm l->r.length+1=l.length->K (.lst r,y)):OK1 (sH (.lst l) [.int d]) K:=by
 obtain⟨n,rfl⟩:∃ n:Nat,d=n:=⟨d.toNat,by omega⟩
 have hn:n < l.length:=by omega
 unfold sH
 dsimp only
 rw[if_pos ⟨by omega,by omega⟩]
 have e:ixN l.length (n:Int)=some n:=by
  unfold ixN
  rw[if_pos (by omega),if_pos (by omega)];simp
 rw[e]
 show OK1 ((l[n]?).map _) K
 rw[List.getElem?_eq_getElem hn]
 exact k _ _ (zQ l n hn) (by rw[List.length_eraseIdx_of_lt hn];omega)
theorem rJ{a b:Int}{xs:List D}{m:Md}{t:D}(hm:m=.par/\t=.lst xs\/m=.val/\t=.tup xs)(hl:xs.length<=1000){K:Res->List Sl->Prop}(k:∀ ys a' b',ys.Perm xs->K (.own (.lst ys)) [⟨.par,.lst [.int a',.int b']⟩,⟨m,t⟩]) :
  CK bK [⟨.par,.lst [.int a,.int b]⟩,⟨m,t⟩] K:=by
 unfold bK
 rw[dH]
 show RS dY [_,_,none,none] _
 unfold dY
 rcases hm with⟨rfl,rfl⟩ | ⟨rfl,rfl⟩
 all_goals
  walk_at "dx"
  refine⟨Nat.zero_le _,?_⟩
  refine aI8 (fun m τ=>∃ a' b' lG found,m=lG.length/\lG.length<=xs.length/\found.length+lG.length=xs.length/\(found++lG).Perm xs/\τ=[some ⟨.par,.lst [.int a',.int b']⟩,some _,some ⟨.own,.lst lG⟩,some ⟨.own,.lst found⟩]) xs.length (by omega) ⟨a,b,xs,[],rfl,Nat.le_refl _,by simp,.refl _,rfl⟩ ?_
  rintro m τ ⟨a',b',lG,found,rfl,hl1,hl2,hp,rfl⟩
  walk_at "dx"
  split
  ·rename_i hpos
   refine bO (by simpa using hpos) (by omega) fun d a2 b2 d0 d1=>?_
   walk_at "dx"
   refine bW8 d0 (by simpa using d1) (by omega) fun y r hpr hr=>?_
   refine⟨Nat.lt_of_lt_of_le (by omega:found.length < 1001) (by decide),.inl ⟨_,r.length,.inl rfl,by omega,a2,b2,r,found++[y],rfl,by omega,by rw[List.length_append];simp only[List.length_cons,List.length_nil];omega,?_,rfl⟩⟩
   rw[List.append_assoc]
   exact(List.Perm.append_left found hpr).trans hp
  ·rename_i hpos
   have:lG=[]:=List.eq_nil_of_length_eq_zero (by omega)
   subst this
   exact k found a' b' (by simpa using hp)
open PySem L2 Dv
noncomputable def Tx(z:Str):Prop:=z.length<=100/\∀ c∈z.cps.toList,c < 128
noncomputable def cI6(i j:Str):Bool:=!(Builtin.Str.occurrences j i 0 j.length 1).isEmpty
theorem aE7{i j:Str}{K:Res->Prop}:OK1 (inD false (.str i) (.str j)) K=K (.val (.bl (cI6 i j))):=rfl
theorem aE8{z:Str}{lo hi:Option Int}{K:Res->Prop}:SK (.str z) lo hi K=(z.length<=sizeLine/\K (.val (.str (PySem.Txt.slice z lo hi)))):=by
 show OK1 (if _ then _ else none) K=_
 rw[bI];rfl
theorem rK{z:Str}{i:Int}{K:Res->Prop}:OK1 (zH (.str z) (.int i)) K=((z.length<=1000/\0<=i/\i<=1000)/\K (.val (.str (PySem.Txt.mul z i)))):=by
 unfold zH
 dsimp only
 rw[bI];rfl
theorem bA6{i:Nat}{σ τ:Sg}:jE [i] σ τ=τ.set i (σ[i]?.getD none):=rfl
theorem aE9:(Str.ofString "abcdefghijklmnopqrstuvwxyz").cps.toList.length=26:=by decide
theorem gQ(z:Str):z.length=z.cps.toList.length:=by show z.cps.size=_;simp
theorem aT5(x y:Str):(x++y).cps.toList=x.cps.toList++y.cps.toList:=by show(x.cps++y.cps).toList=_;simp
theorem iZ(x y:Str):(x++y).length=x.length+y.length:=by rw[gQ,gQ,gQ,aT5,List.length_append]
noncomputable def As(z:Str):Prop:=∀ c∈z.cps.toList,c < 128
theorem aT6{x y:Str}(hx:As x)(hy:As y):As (x++y):=by
 intro c hc
 rw[aT5]at hc
 rcases List.mem_append.mp hc with h | h
 ·exact hx c h
 ·exact hy c h
theorem lT{z:Str}(h:As z)(lo hi:Option Int):As (PySem.Txt.slice z lo hi):=by
 intro c hc
 unfold PySem.Txt.slice at hc
 split at hc
 ·exact h c hc
 ·simp only[List.mem_filterMap]at hc
  obtain⟨i,_,hi⟩:=hc
  exact h c (Array.mem_toList_iff.mpr (Array.mem_of_getElem? hi))
theorem slice_le(z:Str)(lo hi:Option Int):(PySem.Txt.slice z lo hi).length<=z.length:=PySem.Txt.slice_le z lo hi
theorem aA0{z:Str}(h:As z):cQ (.str z)=true:=by
 unfold cQ
 rw[Bool.and_eq_true]
 refine⟨?_,rfl⟩
 show PyData.strOk z=true
 unfold PyData.strOk
 rw[← Array.all_toList,List.all_eq_true]
 intro c hc
 have:=h c hc
 simp;omega
theorem aF0(d:D)(l:List D):cQ d=true->cQ (.lst l)=true->(hW d).depth<=59->cQ (.lst (d::l))=true:=by
 intro h1 h2 h3
 obtain⟨a1,b1⟩:=bU h1
 obtain⟨a2,b2⟩:=bU h2
 unfold cQ
 rw[Bool.and_eq_true,decide_eq_true_eq]
 have e1:(hW (.lst (d::l))).canLay0=((hW d).canLay0&&(hW (.lst l)).canLay0):=by
  simp only[hW,toPys,PyData.canLay0,PyData.canLayAll0]
 refine⟨by rw[e1,a1,a2];rfl,?_⟩
 simp only[hW,toPys,PyData.depth,PyData.depthAll]at b2 ⊢
 omega
theorem aF1:∀ {zs:List Str},(∀ z∈zs,As z)->cQ (.lst (zs.map D.str))=true
 | [],_=>rfl
 | z::r,h=>aF0 _ _ (aA0 (h z List.mem_cons_self)) (aF1 fun y hy=>h y (List.mem_cons_of_mem _ hy)) (by show PyData.depth (.str z)<=59;simp[PyData.depth])
theorem bW9{z:Str}{zs:List Str}(hz:As z)(h:∀ z∈zs,As z){K:Res->Prop}(k:∀ b,K (.val (.bl b))):OK1 (inD true (.str z) (.lst (zs.map D.str))) K:=by
 show OK1 (if _ then _ else none) K
 rw[bI]
 exact⟨⟨aA0 hz,aF1 h⟩,k _⟩
open PySem L2 Dv
local macro_rules | `(tactic| walk_at "dx")=>`(tactic| simp only[↓bU5,↓sK,↓sL,↓sM,↓sN,↓sO,↓sP,↓sQ,↓sR,↓sS,↓sT,↓sU,↓sV,↓sW,↓sX,↓sY,↓sZ,↓aP1,↓tE,↓mG,↓mH,↓mI,↓tF,↓tG,↓mJ,↓mK,↓mL,↓tH,↓tJ,↓aP2,↓tK,↓tL,↓aP3,↓tM,↓tN,↓tO,↓tP,↓tQ,↓mM,↓mO,↓tR,↓tS,↓tT,↓tU,↓tV,↓mP,↓tW,↓mQ,↓tX,↓tY,↓tZ,↓uA,↓uB,↓uC,↓uD,↓uE,↓mR,↓uF,↓uG,↓uH,↓uI,↓uJ,↓uK,↓uL,↓uM,↓uN,↓uO,↓aP4,↓mS,↓jI,↓mT,↓uP,↓mU,↓vD,↓vE,↓vF,↓vG,↓vH,↓vI,↓vJ,↓vK,↓vL,↓oK,↓aP5,↓vM,↓nE,↓jN,↓iA,↓xJ,↓kI,↓aS6,↓xV,↓jS,↓wU,↓wV,↓wW,↓wX,↓wY,↓wZ,↓xA,↓xB,↓vN,↓nG,↓nH,↓nJ,↓vO,↓vP,↓vQ,↓vR,↓vS,↓aP7,↓aP8,↓aP9,↓aQ0,↓vT,↓vV,↓vW,↓nK,↓nM,↓vX,↓nO,↓vY,↓vZ,↓nP,↓jJ,↓wA,↓nQ,↓aQ1,↓vU,↓wB,↓wC,↓wD,↓wE,↓aQ2,↓wG,↓bV2,↓wH,↓aE8,↓rK,↓aE7,bA6,List.getElem?_cons_succ,List.getElem?_cons_zero,Option.getD_some,↓wI,↓wF,↓bE,wN,wO,wP,aI3,aQ3,Int.reducePow,Int.reduceNeg,Int.reduceLT,Int.reduceLE,Nat.reducePow,Nat.reduceLT,Int.reduceToNat,Nat.reduceLeDiff,↓wJ,↓wK,↓wL,↓wM,wS,wQ,aQ4,wR,↓uQ,↓uR,↓uT,↓uU,↓uV,↓uW,↓uX,↓uY,↓uZ,↓mV,↓mW,↓mX,↓mY,↓vA,↓vB,↓vC,mZ,nA,nB,nD,List.set_cons_zero,List.set_cons_succ,dG,aJ8,List.length_cons,List.length_nil,Nat.reduceAdd,Nat.zero_add,true_and,and_true,and_self,Bool.not_false,Bool.not_true,Bool.false_eq_true,Bool.true_and,Bool.and_true,Bool.or_false,↓reduceIte,decide_eq_true_eq])
theorem aT7:∀ (zs:List Str),(∀ z∈zs,z.length<=1)->(zs.map (·.length)).sum<=zs.length
 | [],_=>by simp
 | z::r,h=>by
   have h1:=h z List.mem_cons_self
   have h2:=aT7 r fun y hy=>h y (List.mem_cons_of_mem _ hy)
   simp only[List.map_cons,List.sum_cons,List.length_cons]
   omega
theorem aT8{e:Int}(e0:0<=e)(e1:e < 26):∃ c,atI (Str.ofString "abcdefghijklmnopqrstuvwxyz").cps.toList e=some c/\c < 128:=by
 obtain⟨c,hc⟩:=aM5 (ys:=(Str.ofString "abcdefghijklmnopqrstuvwxyz").cps.toList) e0 (by rw[aE9];exact e1)
 exact⟨c,hc,aM7 c (yR hc)⟩
theorem aF2{c:Nat}(h:c < 128):As ⟨#[c]⟩:=by
 intro x hx
 have:x=c:=by simpa using hx
 subst this
 exact h
theorem cD0{k:Int}(h0:0<=k)(h1:k < 24):∃ (z:Str) (p q r:Nat),PySem.Txt.slice (PySem.Txt.slice (Str.ofString "abcdefghijklmnopqrstuvwxyz") (some k) none) none (some 3)=z/\z.length=3/\gY z=[.str ⟨#[p]⟩,.str ⟨#[q]⟩,.str ⟨#[r]⟩]/\p < 128/\q < 128/\r < 128:=by
 have l26:(Str.ofString "abcdefghijklmnopqrstuvwxyz").length=26:=by decide
 have e1:=aH4 (x:=Str.ofString "abcdefghijklmnopqrstuvwxyz") h0 (by rw[l26];omega)
 have e2:=lT (lT (z:=Str.ofString "abcdefghijklmnopqrstuvwxyz") aM7 (some k) none) none (some 3)
 have hl:(PySem.Txt.slice (Str.ofString "abcdefghijklmnopqrstuvwxyz") (some k) none).length=26-k.toNat:=by
  rw[gQ,e1,List.length_drop,aE9]
 have e3:=aX5 (x:=PySem.Txt.slice (Str.ofString "abcdefghijklmnopqrstuvwxyz") (some k) none) (j:=3) (by decide) (by rw[hl];omega)
 have e4:=gQ (PySem.Txt.slice (PySem.Txt.slice (Str.ofString "abcdefghijklmnopqrstuvwxyz") (some k) none) none (some 3))
 rw[e3,List.length_take,← gQ,hl]at e4
 revert e2 e4
 generalize PySem.Txt.slice (PySem.Txt.slice (Str.ofString "abcdefghijklmnopqrstuvwxyz") (some k) none) none (some 3)=z
 intro e2 e4
 have e5:z.length=3:=by rw[e4];show min 3 _=3;omega
 have e6:=gQ z
 rw[e5]at e6
 unfold As at e2
 match hz:z.cps.toList,e6 with
 | [p,q,r],_=>
   rw[hz]at e2
   exact⟨z,p,q,r,rfl,e5,by unfold gY;rw[hz];rfl,e2 p (by simp),e2 q (by simp),e2 r (by simp)⟩
theorem tx1{c:Nat}(h:c < 128):Tx ⟨#[c]⟩:=⟨by show 1<=100;decide,aF2 h⟩
theorem aF3{x y:Str}{m n:Nat}(h1:x.length<=m/\As x)(h2:y.length<=n/\As y):(x++y).length<=m+n/\As (x++y):=⟨by rw[iZ];omega,aT6 h1.2 h2.2⟩
theorem aY8(c:Nat):Str.length ⟨#[c]⟩=1:=rfl
theorem bA7{e:Int}(h0:0<=e)(h1:e < 11):∃ z:Str,atI ([D.str "table",D.str "tree",D.str "none",D.str "answer",D.str "levels",D.str "looks"]++[D.str "at",D.str "count",D.str "ears",D.str "cover",D.str "place"]) e=some (.str z)/\Tx z:=by
 have:e=0\/e=1\/e=2\/e=3\/e=4\/e=5\/e=6\/e=7\/e=8\/e=9\/e=10:=by omega
 rcases this with rfl | rfl | rfl | rfl | rfl | rfl | rfl | rfl | rfl | rfl | rfl<;>exact⟨_,rfl,by unfold Tx;decide⟩
theorem aA1(ys:List Str)(j:Nat)(z:Str):(ys.map D.str).set j (.str z)=(ys.set j z).map D.str:=by rw[List.map_set]
theorem bX0{n:Nat}{k:Int}(h0:0<=k)(h1:k < n){K:Nat->Prop}(q:∀ j,j < n->K j):OK1 (ixN n k) K:=by
 obtain⟨m,rfl⟩:∃ m:Nat,k=m:=⟨k.toNat,by omega⟩
 have e:ixN n (m:Int)=some m:=by
  unfold ixN
  rw[if_pos (by omega),if_pos (by omega)];simp
 rw[e]
 exact q m (by omega)
theorem bX1{m:Int}(h:m=0\/m=1):(PySem.Txt.mul "z" m).length<=1/\As (PySem.Txt.mul "z" m):=by
 rcases h with rfl | rfl
 ·exact⟨by decide,by unfold As;decide⟩
 ·exact⟨by decide,by unfold As;decide⟩
theorem zm2(p:Prop)[Decidable p]:(if p then(1:Int)else 0)=0\/(if p then(1:Int)else 0)=1:=by
 split
 ·exact .inr rfl
 ·exact .inl rfl
theorem bA8{a b:Int}{K:Res->List Sl->Prop}(k:∀ (zs:List Str) a' b',zs.length=6->(∀ z∈zs,Tx z)->K (.own (.lst (zs.map D.str))) [⟨.par,.lst [.int a',.int b']⟩,⟨.val,.int 6⟩]) :
  CK dB [⟨.par,.lst [.int a,.int b]⟩,⟨.val,.int 6⟩] K:=by
 unfold dB
 rw[dH]
 show RS dX [_,_,none,none,none,none,none,none,none,none,none,none,none,none,none] _
 unfold dX
 walk_at "dx"
 refine bO (by decide) (by decide) fun n a1 b1 n0 n5=>?_
 walk_at "dx"
 refine⟨by omega,by rw[gF];exact Nat.le_trans (by omega:n.toNat<=5) (by decide),?_⟩
 refine iB _ _ (fun i acc τ=>i<=5/\∃ (zs:List Str) (a' b':Int),acc=zs.map D.str/\zs.length=i/\(∀ z∈zs,z.length<=1/\As z)/\τ=[some ⟨.par,.lst [.int a',.int b']⟩,some ⟨.val,.int 6⟩,some ⟨.val,.str "abcdefghijklmnopqrstuvwxyz"⟩,none,none,none,none,none,none,none,none,none,none,none,none]) ⟨by omega,[],a1,b1,rfl,rfl,by simp,rfl⟩ ?_ ?_
 ·rintro i d acc τ hd ⟨_,zs,a',b',rfl,hl,hz,rfl⟩
  obtain⟨hi,rfl⟩:=rH hd
  walk_at "dx"
  refine bO (by decide) (by decide) fun e a2 b2 e0 e1=>?_
  walk_at "dx"
  refine⟨by decide,?_⟩
  obtain⟨c,hc,c1⟩:=aT8 e0 e1
  rw[hc]
  walk_at "dx"
  refine⟨_,rfl,by omega,zs++[⟨#[c]⟩],a2,b2,by rw[List.map_append];rfl,by rw[List.length_append,hl];rfl,?_,rfl⟩
  intro z hz'
  rcases List.mem_append.mp hz' with h | h
  ·exact hz z h
  ·rw[List.mem_singleton]at h
   subst h
   exact⟨Nat.le_refl 1,aF2 c1⟩
 ·rintro acc τ ⟨h5,zs,a',b',rfl,hl,hz,rfl⟩
  have hs:=aT7 zs fun z h=>(hz z h).1
  rw[bJ3]
  refine⟨by simp only[show(Str.ofString "").length=0 by decide];omega,?_⟩
  have hx:=yT (m:=128) (sep:=Str.ofString "") (by decide) zs fun z h=>(hz z h).2
  have hxl:(PySem.Txt.join (Str.ofString "") zs).length<=5:=by
   refine Nat.le_trans (bH1 _ _) ?_
   simp only[show(Str.ofString "").length=0 by decide];omega
  revert hx hxl
  generalize PySem.Txt.join (Str.ofString "") zs=x
  intro hx hxl
  have hxs:x.length<=sizeLine:=Nat.le_trans hxl (by decide)
  walk_at "dx"
  rw[kI hxs]
  walk_at "dx"
  refine bO (by omega) (by omega) fun k1 a2 b2 k10 k11=>?_
  walk_at "dx"
  refine bO (by omega) (by omega) fun k2 a3 b3 k20 k21=>?_
  walk_at "dx"
  refine bO (by omega) (by omega) fun k3 a4 b4 k30 k31=>?_
  walk_at "dx"
  split
  ·refine bO (by omega) (by omega) fun k4 a5 b5 k40 k41=>?_
   walk_at "dx"
   obtain⟨z,p,q,r,e,hz3,es,hp,hq,hr⟩:=cD0 k40 k41
   rw[e,es]
   refine⟨by decide,Nat.le_trans (slice_le _ _ _) (by decide),hz3,?_⟩
   walk_at "dx"
   simp only[iZ,aY8]
   refine⟨by decide,by decide,by decide,by decide,by decide,by decide,by decide,by decide,by decide,?_⟩
   have tp:=tx1 hp
   have tq:=tx1 hq
   have tr:=tx1 hr
   have l1:∀ {c:Nat},c < 128->Str.length ⟨#[c]⟩<=1/\As ⟨#[c]⟩:=fun h=>⟨Nat.le_refl 1,aF2 h⟩
   have t2:∀ {x:Str} {n:Nat},n<=100->x.length<=n/\As x->Tx x:=fun hn h=>⟨Nat.le_trans h.1 hn,h.2⟩
   refine k [⟨#[p]⟩,⟨#[p]⟩++⟨#[q]⟩,⟨#[q]⟩,⟨#[q]⟩++⟨#[r]⟩,⟨#[r]⟩,⟨#[p]⟩++⟨#[r]⟩] _ _ rfl ?_
   intro z hz
   simp only[List.mem_cons,List.not_mem_nil,or_false]at hz
   rcases hz with rfl | rfl | rfl | rfl | rfl | rfl
   ·exact tp
   ·exact t2 (by decide) (aF3 (l1 hp) (l1 hq))
   ·exact tq
   ·exact t2 (by decide) (aF3 (l1 hq) (l1 hr))
   ·exact tr
   ·exact t2 (by decide) (aF3 (l1 hp) (l1 hr))
  ·refine⟨Nat.zero_le _,?_⟩
   refine zN (fun i τ=>i<=6/\∃ (ys:List Str) (o1 o2:Option Sl),((o1=none/\o2=none)\/∃ d e,o1=some ⟨.val,d⟩/\o2=some ⟨.val,e⟩)/\ys.length=i/\(∀ y∈ys,Tx y)/\τ=[some ⟨.par,.lst [.int a4,.int b4]⟩,some ⟨.val,.int 6⟩,some ⟨.val,.str "abcdefghijklmnopqrstuvwxyz"⟩,some ⟨.val,.str x⟩,some ⟨.val,.int k1⟩,some ⟨.val,.int k2⟩,some ⟨.val,.int k3⟩,none,none,none,none,some ⟨.own,.lst (ys.map D.str)⟩,o1,o2,none]) ⟨by omega,[],none,none,.inl ⟨rfl,rfl⟩,rfl,by simp,rfl⟩ ?_ ?_
   ·rintro i d τ hd ⟨_,ys,o1,o2,ho,hy,hyt,rfl⟩
    obtain⟨hi,rfl⟩:=rH hd
    obtain⟨c,hc,c1⟩:=aT8 (e:=(k2+5*(0+(i:Int))) % 26) (Int.emod_nonneg _ (by decide)) (Int.emod_lt_of_pos _ (by decide))
    have l1:=slice_le x none (some k1)
    have l2:=slice_le x (some k1) none
    have g1:=lT (z:=x) hx none (some k1)
    have g2:=lT (z:=x) hx (some k1) none
    have sl:100<=sizeLine:=by decide
    have done:∀ (w:Str) (t:Str) ,(w.length<=20/\As w)->(t.length<=1/\As t)->Tx (w++t):=fun w t hw ht=>by
     have:=aF3 hw ht
     exact⟨by omega,this.2⟩
    rcases ho with⟨rfl,rfl⟩ | ⟨d,e,rfl,rfl⟩
    all_goals
     walk_at "dx"
     rw[hc]
     walk_at "dx"
     have z1:=bX1 (zm2 ((0+(i:Int)) % 2=1))
     have z0:=bX1 (m:=0) (.inl rfl)
     have zi:=zm2 ((0+(i:Int)) % 2=1)
     have w0:(PySem.Txt.slice x none (some k1)++⟨#[c]⟩++PySem.Txt.slice x (some k1) none).length<=20/\As (PySem.Txt.slice x none (some k1)++⟨#[c]⟩++PySem.Txt.slice x (some k1) none):=by
      refine⟨?_,aT6 (aT6 g1 (aF2 c1)) g2⟩
      rw[iZ,iZ,aY8]
      omega
     simp only[iZ,aY8]at w0 ⊢
     revert zi z1
     generalize (if(0+(i:Int)) % 2=1 then(1:Int)else 0)=zz
     intro z1 zi
     refine⟨by omega,by decide,by omega,by omega,by omega,?_⟩
     have hyl:(List.map D.str ys).length < sizeLine:=by rw[List.length_map];omega
     split
     ·refine⟨⟨by decide,by omega,by omega⟩,by omega,hyl,_,.inl rfl,by omega,ys++[_],_,_,.inr ⟨_,_,rfl,rfl⟩,by rw[List.length_append,hy];rfl,?_,by rw[List.map_append];rfl⟩
      intro y h
      rcases List.mem_append.mp h with h | h
      ·exact hyt y h
      ·rw[List.mem_singleton]at h
       subst h
       exact done _ _ ⟨by simp only[iZ,aY8];exact w0.1,w0.2⟩ z1
     ·refine⟨by decide,by omega,hyl,_,.inl rfl,by omega,ys++[_],_,_,.inr ⟨_,_,rfl,rfl⟩,by rw[List.length_append,hy];rfl,?_,by rw[List.map_append];rfl⟩
      intro y h
      rcases List.mem_append.mp h with h | h
      ·exact hyt y h
      ·rw[List.mem_singleton]at h
       subst h
       exact done _ _ ⟨by simp only[iZ,aY8];exact w0.1,w0.2⟩ z0
   ·rintro τ ⟨_,ys,o1,o2,ho,hy,hyt,rfl⟩
    rw[gF]at hy
    have hya:∀ z∈ys,As z:=fun z h=>(hyt z h).2
    rcases ho with⟨rfl,rfl⟩ | ⟨d,e,rfl,rfl⟩
    all_goals
     walk_at "dx"
     refine⟨by decide,by decide,by decide,bO (by omega) (by omega) fun k4 a5 b5 k40 k41=>?_⟩
     obtain⟨w,hw,tw⟩:=bA7 k40 k41
     walk_at "dx"
     rw[hw]
     walk_at "dx"
     refine bO (by omega) (by omega) fun k5 a6 b6 k50 k51=>?_
     walk_at "dx"
     split
     ·refine bW9 tw.2 hya fun b=>?_
      walk_at "dx"
      split
      ·refine bO (by omega) (by omega) fun k6 a7 b7 k60 k61=>?_
       walk_at "dx"
       refine bX0 k60 (by rw[List.length_map,hy];omega) fun j hj=>?_
       rw[aA1]
       refine k _ _ _ (by rw[List.length_set,hy]) fun z hz=>?_
       rcases List.mem_or_eq_of_mem_set hz with h | h
       ·exact hyt z h
       ·exact h ▸ tw
      ·exact k _ _ _ hy hyt
     ·exact k _ _ _ hy hyt
open PySem L2 Dv Sx
theorem aF4(k:List Int):∀ (l:List (List Int)),(aS4 k l).length<=l.length+1
 | []=>Nat.le_refl 1
 | x::r=>by
   have:=aF4 k r
   unfold aS4
   split
   ·simp
   ·split
    ·simp
    ·simp only[List.length_cons];omega
theorem oU:∀ (l:List (List Int)),(srt l).length<=l.length
 | []=>Nat.le_refl 0
 | k::r=>by
   have h1:=oU r
   have h2:=aF4 k (srt r)
   show(aS4 k (srt r)).length<=r.length+1
   omega
theorem aA2{ks:List (List Int)}{n:Nat}(h:∀ k∈ks,k.length=n)(h2:2<=(srt ks).length):∀ k∈ks,k≠[]:=by
 rintro k hk rfl
 have n0:n=0:=(h [] hk).symm
 have hr:=gD ks
 match e:srt ks,h2 with
 | a::b::r,_=>
   rw[e]at hr
   have hab:=(List.pairwise_cons.mp hr).1 b List.mem_cons_self
   have ha:=h a ((eV ks a).mp (by rw[e];simp))
   have hb:=h b ((eV ks b).mp (by rw[e];simp))
   rw[List.eq_nil_of_length_eq_zero (ha.trans n0),List.eq_nil_of_length_eq_zero (hb.trans n0)]at hab
   cases hab
theorem bL3{e:Int}(h0:0<=e)(h1:e < 4):∃ m:Int,atI [D.int 2,D.int 3,D.int 10,D.int 1000] e=some (.int m)/\0 < m/\m<=1000:=by
 have:e=0\/e=1\/e=2\/e=3:=by omega
 rcases this with rfl | rfl | rfl | rfl<;>exact⟨_,rfl,by decide,by decide⟩
theorem bX2{a b e:Int}(h0:0<=e)(h1:e < 2)(ha:0 < a/\a<=61)(hb:0 < b/\b<=61):∃ m:Int,atI [D.int a,D.int b] e=some (.int m)/\0 < m/\m<=61:=by
 have:e=0\/e=1:=by omega
 rcases this with rfl | rfl
 ·exact⟨_,rfl,ha⟩
 ·exact⟨_,rfl,hb⟩
theorem aF5{l:List D}{K:List D->Prop}:OK1 (pR (.tup l)) K=K l:=rfl
theorem aT9{l:List D}{K:List D->Prop}:OK1 (pR (.lst l)) K=K l:=rfl
theorem bA9{ks:List (List Int)}{K:Res->Prop}(h:ks.length < 4000/\(srt ks).length < 64/\(2<=(srt ks).length->∀ k∈ks,k≠[]))(k:K (.own (.lst ((srt ks).map tI)))):OK1 (bZ [.lst (ks.map tI)]) K:=by
 rw[(rG h).1];exact k
theorem bX3{ks:List (List Int)}{K:Res->Prop}(h:ks.length < 4000/\(srt ks).length < 64/\(2<=(srt ks).length->∀ k∈ks,k≠[]))(k:K (.own (.lst ((srt ks).map tI)))):OK1 (bZ [.tup (ks.map tI)]) K:=by
 rw[(rG h).2];exact k
theorem bX4{ns:List Int}{K:Res->Prop}(h:ns.length < 4000/\(pK ns).length < 64)(k:K (.own (.lst ((pK ns).map D.int)))):OK1 (bZ [.lst (ns.map D.int)]) K:=by
 rw[bA5 h];exact k
theorem bL4{a b:Int}{zs:List Str}(hz:zs.length<=100){K:Res->List Sl->Prop}(k:∀ (ks:List (List Int)) a' b',ks.length<=60->(∀ k∈ks,k.length=zs.length)->aE2 ks->K (.val (.tup (ks.map tI))) [⟨.par,.lst [.int a',.int b']⟩,⟨.val,.tup (zs.map D.str)⟩,⟨.val,.int 60⟩]) :
  CK dZ [⟨.par,.lst [.int a,.int b]⟩,⟨.val,.tup (zs.map D.str)⟩,⟨.val,.int 60⟩] K:=by
 unfold dZ
 rw[dH]
 show RS eX [_,_,_,none,none,none,none] _
 unfold eX
 walk_at "dx"
 refine⟨by decide,bO (by decide) (by decide) fun n a1 b1 n0 n5=>?_⟩
 obtain⟨m,hm,m0,m1⟩:=bL3 n0 n5
 walk_at "dx"
 rw[hm]
 walk_at "dx"
 refine⟨by decide,bO (by decide) (by decide) fun n2 a2 b2 n20 n21=>?_⟩
 obtain⟨c,hc,c0,c1⟩:=bX2 (a:=61) (b:=6) n20 n21 (by decide) (by decide)
 walk_at "dx"
 rw[show(60:Int)+1=61 from rfl,hc]
 walk_at "dx"
 refine bO c0 (by omega) fun n3 a3 b3 n30 n31=>?_
 walk_at "dx"
 refine⟨by omega,by rw[gF];exact Nat.le_trans (by omega:n3.toNat<=100) (by decide),?_⟩
 refine iB _ _ (fun i acc τ=>i<=61/\∃ (ks:List (List Int)) (a' b':Int),acc=ks.map tI/\ks.length=i/\(∀ k∈ks,k.length=zs.length)/\τ=[some ⟨.par,.lst [.int a',.int b']⟩,some ⟨.val,.tup (zs.map D.str)⟩,some ⟨.val,.int 60⟩,some ⟨.val,.int m⟩,some ⟨.val,.int n3⟩,none,none]) ⟨by omega,[],a3,b3,rfl,rfl,by simp,rfl⟩ ?_ ?_
 ·rintro i d acc τ hd ⟨_,ks,a',b',rfl,hl,hk,rfl⟩
  obtain⟨hi,rfl⟩:=rH hd
  walk_at "dx"
  rw[aF5]
  refine⟨by rw[List.length_map];exact Nat.le_trans hz (by decide),?_⟩
  refine iB _ _ (fun j acc τ=>∃ (vs:List Int) (a' b':Int),acc=vs.map D.int/\vs.length=j/\τ=[some ⟨.par,.lst [.int a',.int b']⟩,some ⟨.val,.tup (zs.map D.str)⟩,some ⟨.val,.int 60⟩,some ⟨.val,.int m⟩,some ⟨.val,.int n3⟩,some ⟨.val,.int (0+(i:Int))⟩,none]) ⟨[],a',b',rfl,rfl,rfl⟩ ?_ ?_
  ·rintro j d acc τ hd ⟨vs,a',b',rfl,hl,rfl⟩
   walk_at "dx"
   refine bO m0 (by omega) fun e a4 b4 e0 e1=>?_
   walk_at "dx"
   exact⟨_,rfl,vs++[e],a4,b4,by rw[List.map_append];rfl,by rw[List.length_append,hl];rfl,rfl⟩
  ·rintro acc τ ⟨vs,a',b',rfl,hv,rfl⟩
   refine⟨_,rfl,by omega,ks++[vs],a',b',by rw[List.map_append];rfl,by rw[List.length_append,hl];rfl,?_,rfl⟩
   intro k hk'
   rcases List.mem_append.mp hk' with h | h
   ·exact hk k h
   ·rw[List.mem_singleton]at h
    subst h
    rw[hv,List.length_map]
 ·rintro acc τ ⟨_,ks,a',b',rfl,hl,hk,rfl⟩
  walk_at "dx"
  rw[gF]at hl
  have h1:=oU ks
  refine bA9 ⟨by omega,by omega,aA2 hk⟩ ?_
  walk_at "dx"
  exact k _ _ _ (by omega) (fun y hy=>hk y ((eV ks y).mp hy)) (gD ks)
open PySem L2 Dv Sx
theorem aU0{z:Str}{K:List D->Prop}:OK1 (pR (.str z)) K=K (gY z):=rfl
theorem aU1{l:List D}{K:List D->Prop}:OK1 (cI5 (.tup l)) K=K l:=rfl
local macro_rules | `(tactic| walk_at "dx")=>`(tactic| simp only[↓bU5,↓sK,↓sL,↓sM,↓sN,↓sO,↓sP,↓sQ,↓sR,↓sS,↓sT,↓sU,↓sV,↓sW,↓sX,↓sY,↓sZ,↓aP1,↓tE,↓mG,↓mH,↓mI,↓tF,↓tG,↓mJ,↓mK,↓mL,↓tH,↓tJ,↓aP2,↓tK,↓tL,↓aP3,↓tM,↓tN,↓tO,↓tP,↓tQ,↓mM,↓mO,↓tR,↓tS,↓tT,↓tU,↓tV,↓mP,↓tW,↓mQ,↓tX,↓tY,↓tZ,↓uA,↓uB,↓uC,↓uD,↓uE,↓mR,↓uF,↓uG,↓uH,↓uI,↓uJ,↓uK,↓uL,↓uM,↓uN,↓uO,↓aP4,↓mS,↓jI,↓mT,↓uP,↓mU,↓vD,↓vE,↓vF,↓vG,↓vH,↓vI,↓vJ,↓vK,↓vL,↓oK,↓aP5,↓vM,↓nE,↓jN,↓iA,↓xJ,↓kI,↓aS6,↓xV,↓jS,↓wU,↓wV,↓wW,↓wX,↓wY,↓wZ,↓xA,↓xB,↓vN,↓nG,↓nH,↓nJ,↓vO,↓vP,↓vQ,↓vR,↓vS,↓aP7,↓aP8,↓aP9,↓aQ0,↓vT,↓vV,↓vW,↓nK,↓nM,↓vX,↓nO,↓vY,↓vZ,↓nP,↓jJ,↓wA,↓nQ,↓aQ1,↓vU,↓wB,↓wC,↓wD,↓wE,↓aQ2,↓wG,↓bV2,↓wH,↓aE8,↓rK,↓aE7,bA6,↓aF5,↓aT9,↓aU0,↓aU1,List.getElem?_cons_succ,List.getElem?_cons_zero,Option.getD_some,↓wI,↓wF,↓bE,wN,wO,wP,aI3,aQ3,Int.reducePow,Int.reduceNeg,Int.reduceLT,Int.reduceLE,Nat.reducePow,Nat.reduceLT,Int.reduceToNat,Nat.reduceLeDiff,↓wJ,↓wK,↓wL,↓wM,wS,wQ,aQ4,wR,↓uQ,↓uR,↓uT,↓uU,↓uV,↓uW,↓uX,↓uY,↓uZ,↓mV,↓mW,↓mX,↓mY,↓vA,↓vB,↓vC,mZ,nA,nB,nD,List.set_cons_zero,List.set_cons_succ,dG,aJ8,List.length_cons,List.length_nil,Nat.reduceAdd,Nat.zero_add,true_and,and_true,and_self,Bool.not_false,Bool.not_true,Bool.false_eq_true,Bool.true_and,Bool.and_true,Bool.or_false,↓reduceIte,decide_eq_true_eq])
theorem aA3{α:Type}(f:α->D)(l:List α)(lo hi:Option Int):∃ l':List α,aU9 (l.map f) lo hi=l'.map f/\l'.length<=l.length/\∀ z∈l',z∈l:=by
 refine⟨(l.drop (HT.sIx (l.map f).length 0 lo)).take (HT.sIx (l.map f).length (l.map f).length hi-HT.sIx (l.map f).length 0 lo),?_,?_,fun z hz=>List.mem_of_mem_drop (List.mem_of_mem_take hz)⟩
 ·unfold aU9
  rw[List.map_take,List.map_drop]
 ·rw[List.length_take,List.length_drop];omega
theorem qN{P:Str->Prop}:∀ {ys:List D},(∀ y∈ys,∃ z,P z/\y=.str z)->∃ l:List Str,ys=l.map D.str/\∀ z∈l,P z
 | [],_=>⟨[],rfl,by simp⟩
 | y::r,h=>by
   obtain⟨z,hz,rfl⟩:=h y List.mem_cons_self
   obtain⟨l,rfl,hl⟩:=qN fun y hy=>h y (List.mem_cons_of_mem _ hy)
   exact⟨z::l,rfl,fun x hx=>by
    rcases List.mem_cons.mp hx with rfl | hx
    ·exact hz
    ·exact hl x hx⟩
theorem aU2{ys:List D}{zs:List Str}(h:ys.Perm (zs.map D.str)){P:Str->Prop}(hp:∀ z∈zs,P z):∃ l:List Str,ys=l.map D.str/\l.length=zs.length/\∀ z∈l,P z:=by
 obtain⟨l,rfl,hl⟩:=qN (ys:=ys) (P:=P) fun y hy=>by
  obtain⟨z,hz,rfl⟩:=List.mem_map.mp (h.mem_iff.mp hy)
  exact⟨z,hp z hz,rfl⟩
 have:=h.length_eq
 rw[List.length_map,List.length_map]at this
 exact⟨l,rfl,this,hl⟩
theorem bB0{a b:Int}{zs:List Str}(hz:zs.length=6)(ht:∀ z∈zs,Tx z){K:Res->List Sl->Prop}(k:∀ (cs:List Str) (ks:List (List Int)) a' b',cs.length<=6->(∀ z∈cs,Tx z)->ks.length<=60->(∀ k∈ks,k.length=cs.length)->aE2 ks->K (.val (.tup [.tup (cs.map D.str),.tup (ks.map tI)])) [⟨.par,.lst [.int a',.int b']⟩,⟨.par,.lst (zs.map D.str)⟩,⟨.val,.int 60⟩]) :
  CK dD [⟨.par,.lst [.int a,.int b]⟩,⟨.par,.lst (zs.map D.str)⟩,⟨.val,.int 60⟩] K:=by
 unfold dD
 rw[dH]
 show RS eA [_,_,_,none] _
 unfold eA
 walk_at "dx"
 refine⟨rfl,rJ (xs:=zs.map D.str) (.inl ⟨rfl,rfl⟩) (by rw[List.length_map,hz];decide) fun ys a1 b1 hp=>?_⟩
 obtain⟨l,rfl,hl,hlt⟩:=aU2 hp ht
 walk_at "dx"
 refine bO (by rw[List.length_map,hz];decide) (by rw[List.length_map,hz];decide) fun n a2 b2 n0 n1=>?_
 obtain⟨cs,hcs,hcl,hct⟩:=aA3 D.str l none (some n)
 walk_at "dx"
 rw[hcs]
 refine bL4 (by omega) fun ks a3 b3 k1 k2 k3=>?_
 walk_at "dx"
 exact⟨sl2,k _ _ _ _ (by omega) (fun z h=>hlt z (hct z h)) k1 k2 k3⟩
theorem aU3{r:DT}{σ:Sg}{Q Q':Bool->Sg->Prop}(h:RT r σ Q)(w:∀ b τ,Q b τ->Q' b τ):RT r σ Q':=dL h fun x=>w x.1 x.2
theorem aU4{r:DE}{σ:Sg}{Q Q':Res->Sg->Prop}(h:RE r σ Q)(w:∀ b τ,Q b τ->Q' b τ):RE r σ Q':=dL h fun x=>w x.1 x.2
theorem dF{α:Type}{g:D->Sg->Option Sg}{ow:List Nat}{t:DT}{e:DE}{K:List D×Sg->Prop}(f:α->D)(u:α->D)(xs:List α){τ0:Sg}(τ:Sg)(e0:τ0=τ)
  (hs:∀ x∈xs,OK1 (g (u x) τ) fun τ1=>RT t τ1 fun b τ2=>b=true/\RE e τ2 fun r τ3=>r=.val (f x)/\bN ow τ3=τ) (k:K (xs.map f,τ)):OK1 (aI7 ow g t e (xs.map u) τ0) K:=by
 subst e0
 refine iB _ _ (fun i acc τ'=>acc=(xs.take i).map f/\τ'=τ0) ⟨rfl,rfl⟩ ?_ ?_
 ·rintro i d acc τ' hd ⟨rfl,rfl⟩
  rw[List.getElem?_map]at hd
  obtain⟨x,hx,rfl⟩:=Option.map_eq_some_iff.mp hd
  refine dL (hs x (List.mem_of_getElem? hx)) fun τ1 h1=>aU3 h1 fun b τ2 h2=>?_
  obtain⟨rfl,h2⟩:=h2
  rw[if_pos rfl]
  refine aU4 h2 fun r τ3 h3=>?_
  exact⟨_,h3.1,by rw[List.take_add_one,hx,List.map_append];rfl,h3.2⟩
 ·rintro acc τ' ⟨rfl,rfl⟩
  rw[List.length_map,List.take_length]
  exact k
theorem lE{α:Type}{g:D->Sg->Option Sg}{ow:List Nat}{t:DT}{e:DE}{K:List D×Sg->Prop}(p:α->Bool)(f:α->D)(u:α->D)(xs:List α){τ0:Sg}(τ:Sg)(e0:τ0=τ)
  (hs:∀ x∈xs,OK1 (g (u x) τ) fun τ1=>RT t τ1 fun b τ2=>b=p x/\bN ow τ2=τ/\RE e τ2 fun r τ3=>r=.val (f x)/\bN ow τ3=τ) (k:K ((xs.filter p).map f,τ)):OK1 (aI7 ow g t e (xs.map u) τ0) K:=by
 subst e0
 refine iB _ _ (fun i acc τ'=>acc=((xs.take i).filter p).map f/\τ'=τ0) ⟨rfl,rfl⟩ ?_ ?_
 ·rintro i d acc τ' hd ⟨rfl,rfl⟩
  rw[List.getElem?_map]at hd
  obtain⟨x,hx,rfl⟩:=Option.map_eq_some_iff.mp hd
  refine dL (hs x (List.mem_of_getElem? hx)) fun τ1 h1=>aU3 h1 fun b τ2 h2=>?_
  obtain⟨rfl,h2,h3⟩:=h2
  have e0:(xs.take (i+1)).filter p=(xs.take i).filter p++(if p x=true then[x]else[]):=by
   rw[List.take_add_one,hx,List.filter_append]
   cases h:p x<;>simp[h]
  by_cases hp:p x=true
  ·rw[if_pos hp]
   refine aU4 h3 fun r τ3 h4=>?_
   exact⟨_,h4.1,by rw[e0,if_pos hp,List.map_append];rfl,h4.2⟩
  ·rw[if_neg hp]
   exact⟨by rw[e0,if_neg hp,List.append_nil],h2⟩
 ·rintro acc τ' ⟨rfl,rfl⟩
  rw[List.length_map,List.take_length]
  exact k
open PySem L2 Dv Sx
local macro_rules | `(tactic| walk_at "dx")=>`(tactic| simp only[↓aS8,↓bU5,↓sK,↓sL,↓sM,↓sN,↓sO,↓sP,↓sQ,↓sR,↓sS,↓sT,↓sU,↓sV,↓sW,↓sX,↓sY,↓sZ,↓aP1,↓tE,↓mG,↓mH,↓mI,↓tF,↓tG,↓mJ,↓mK,↓mL,↓tH,↓tJ,↓aP2,↓tK,↓tL,↓aP3,↓tM,↓tN,↓tO,↓tP,↓tQ,↓mM,↓mO,↓tR,↓tS,↓tT,↓tU,↓tV,↓mP,↓tW,↓mQ,↓tX,↓tY,↓tZ,↓uA,↓uB,↓uC,↓uD,↓uE,↓mR,↓uF,↓uG,↓uH,↓uI,↓uJ,↓uK,↓uL,↓uM,↓uN,↓uO,↓aP4,↓mS,↓jI,↓mT,↓uP,↓mU,↓vD,↓vE,↓vF,↓vG,↓vH,↓vI,↓vJ,↓vK,↓vL,↓oK,↓aP5,↓vM,↓nE,↓jN,↓iA,↓xJ,↓kI,↓aS6,↓xV,↓jS,↓wU,↓wV,↓wW,↓wX,↓wY,↓wZ,↓xA,↓xB,↓vN,↓nG,↓nH,↓nJ,↓vO,↓vP,↓vQ,↓vR,↓vS,↓aP7,↓aP8,↓aP9,↓aQ0,↓vT,↓vV,↓vW,↓nK,↓nM,↓vX,↓nO,↓vY,↓vZ,↓nP,↓jJ,↓wA,↓nQ,↓aQ1,↓vU,↓wB,↓wC,↓wD,↓wE,↓aQ2,↓wG,↓bV2,↓wH,↓aE8,↓rK,↓aE7,bA6,↓aF5,↓aT9,↓aU0,↓aU1,List.getElem?_cons_succ,List.getElem?_cons_zero,Option.getD_some,↓wI,↓wF,↓bE,wN,wO,wP,aI3,aQ3,Int.reducePow,Int.reduceNeg,Int.reduceLT,Int.reduceLE,Nat.reducePow,Nat.reduceLT,Int.reduceToNat,Nat.reduceLeDiff,↓wJ,↓wK,↓wL,↓wM,wS,wQ,aQ4,wR,↓uQ,↓uR,↓uT,↓uU,↓uV,↓uW,↓uX,↓uY,↓uZ,↓mV,↓mW,↓mX,↓mY,↓vA,↓vB,↓vC,mZ,nA,nB,nD,List.set_cons_zero,List.set_cons_succ,dG,aJ8,List.length_cons,List.length_nil,Nat.reduceAdd,Nat.zero_add,true_and,and_true,and_self,Bool.not_false,Bool.not_true,Bool.false_eq_true,Bool.true_and,Bool.and_true,Bool.or_false,↓reduceIte,decide_eq_true_eq])
theorem aF6{i:Int}{K:Res->List Sl->Prop}(k:K (.val (.bl true)) [⟨.val,.int i⟩]):CK cA [⟨.val,.int i⟩] K:=by
 unfold cA
 rw[dH]
 show RS eB [_] _
 unfold eB
 walk_at "dx"
 exact k
noncomputable def pk(cs so:List Str)(row:List Int):List Int:=so.map fun z=>row.getD (cs.idxOf z) 0
theorem oV{row:List Int}{n:Nat}(h:n < row.length):atI (row.map D.int) (n:Int)=some (.int (row.getD n 0)):=by
 rw[yS]
 unfold atI ixN
 rw[if_pos (by omega),if_pos (by omega)]
 simp[h]
theorem iE{α:Type}{l:List α}(h:l.length<=100):l.length<=sizeLine:=Nat.le_trans h (by decide)
theorem oW{cs:List Str}{z:Str}(h:z∈cs):cs.idxOf z < cs.length:=List.idxOf_lt_length_of_mem h
theorem bX5(cs so:List Str)(row:List Int):tI (pk cs so row)=.tup (so.map fun z=>.int (row.getD (cs.idxOf z) 0)):=by
 unfold tI pk
 rw[List.map_map];rfl
theorem cD1{cs so:List Str}{row:List Int}(hr:row.length=cs.length)(hs:∀ z∈so,z∈cs)(hl:so.length<=100){K:Res->List Sl->Prop}(k:K (.val (tI (pk cs so row))) [⟨.val,.tup (cs.map D.str)⟩,⟨.val,tI row⟩,⟨.val,.tup (so.map D.str)⟩]) :
  CK fT [⟨.val,.tup (cs.map D.str)⟩,⟨.val,tI row⟩,⟨.val,.tup (so.map D.str)⟩] K:=by
 unfold fT
 rw[dH]
 show RS iC [_,_,_,none] _
 unfold iC
 walk_at "dx"
 refine⟨iE (by rwa[List.length_map]),dF (fun z=>.int (row.getD (cs.idxOf z) 0)) D.str so [_,_,_,none] rfl (fun z hz=>?_) ?_⟩
 ·walk_at "dx"
  exact⟨hs z hz,by rw[oV (by rw[hr];exact oW (hs z hz))];exact⟨rfl,rfl⟩⟩
 ·rw[bX5]at k
  exact k
theorem aU5{cs so:List Str}(hs:∀ z∈so,z∈cs)(hl:so.length<=100){K:Res->List Sl->Prop}(k:K (.own (.lst (so.map fun z=>.int (cs.idxOf z:Nat)))) [⟨.val,.tup (cs.map D.str)⟩,⟨.val,.tup (so.map D.str)⟩]) :
  CK dE [⟨.val,.tup (cs.map D.str)⟩,⟨.val,.tup (so.map D.str)⟩] K:=by
 unfold dE
 rw[dH]
 show RS eC [_,_,none] _
 unfold eC
 walk_at "dx"
 refine⟨iE (by rwa[List.length_map]),dF (fun z=>.int (cs.idxOf z:Nat)) D.str so [_,_,none] rfl (fun z hz=>?_) k⟩
 walk_at "dx"
 exact⟨hs z hz,rfl⟩
theorem bE3{cs:List Str}{ks:List (List Int)}{r:D}{m:Md}(hm:(m=.par\/m=.val)/\r=.lst (ks.map tI)\/m=.val/\r=.tup (ks.map tI))(h:ks.length < 4000/\(srt ks).length < 64/\(2<=(srt ks).length->∀ k∈ks,k≠[]))
  {K:Res->List Sl->Prop} (k:K (.val (.tup [.tup (cs.map D.str),.tup ((srt ks).map tI)])) [⟨.val,.tup (cs.map D.str)⟩,⟨m,r⟩]):CK bX [⟨.val,.tup (cs.map D.str)⟩,⟨m,r⟩] K:=by
 unfold bX
 rw[dH]
 show RS eY [_,_] _
 unfold eY
 rcases hm with⟨rfl | rfl,rfl⟩ | ⟨rfl,rfl⟩
 ·walk_at "dx"
  refine bA9 h ?_
  walk_at "dx"
  exact⟨sl2,k⟩
 ·walk_at "dx"
  refine bA9 h ?_
  walk_at "dx"
  exact⟨sl2,k⟩
 ·walk_at "dx"
  refine bX3 h ?_
  walk_at "dx"
  exact⟨sl2,k⟩
theorem aU6{cs so:List Str}{row:List Int}(hr:row.length=cs.length)(hs:∀ z∈so,z∈cs)(hl:so.length<=100){K:Res->List Sl->Prop}(k:K (.val (tI (pk cs so row))) [⟨.val,tI row⟩,⟨.par,.lst (so.map fun z=>.int (cs.idxOf z:Nat))⟩]) :
  CK fU [⟨.val,tI row⟩,⟨.par,.lst (so.map fun z=>.int (cs.idxOf z:Nat))⟩] K:=by
 unfold fU
 rw[dH]
 show RS iD [_,_,none] _
 unfold iD
 walk_at "dx"
 refine⟨iE (by rwa[List.length_map]),dF (fun z=>.int (row.getD (cs.idxOf z) 0)) (fun z=>.int (cs.idxOf z:Nat)) so [_,_,none] rfl (fun z hz=>?_) ?_⟩
 ·walk_at "dx"
  rw[oV (by rw[hr];exact oW (hs z hz))]
  exact⟨rfl,rfl⟩
 ·walk_at "dx"
  rw[bX5]at k
  exact k
theorem bX6{cs so:List Str}{ks:List (List Int)}(hr:∀ y∈ks,y.length=cs.length)(hs:∀ z∈so,z∈cs)(hl:so.length<=100)(hk:ks.length<=60)
  {K:Res->List Sl->Prop} (k:K (.val (.tup [.tup (so.map D.str),.tup ((srt (ks.map (pk cs so))).map tI)])) [⟨.val,.tup [.tup (cs.map D.str),.tup (ks.map tI)]⟩,⟨.val,.tup (so.map D.str)⟩]) :
  CK oQ [⟨.val,.tup [.tup (cs.map D.str),.tup (ks.map tI)]⟩,⟨.val,.tup (so.map D.str)⟩] K:=by
 unfold oQ
 rw[dH]
 show RS yA [_,_,none,none] _
 unfold yA
 walk_at "dx"
 refine aU5 hs hl ?_
 walk_at "dx"
 refine⟨iE (by rw[List.length_map];omega),dF (fun y=>tI (pk cs so y)) tI ks [_,_,_,none] rfl (fun y hy=>?_) ?_⟩
 ·walk_at "dx"
  refine aU6 (hr y hy) hs hl ?_
  walk_at "dx"
  exact rfl
 ·refine bE3 (ks:=ks.map (pk cs so)) (.inl ⟨.inl rfl,by rw[List.map_map];rfl⟩) ⟨by rw[List.length_map];omega,Nat.lt_of_le_of_lt (oU _) (by rw[List.length_map];omega),aA2 (n:=so.length) fun y hy=>?_⟩ ?_
  ·obtain⟨x,_,rfl⟩:=List.mem_map.mp hy
   exact List.length_map ..
  ·walk_at "dx"
   exact k
open PySem L2 Dv Sx
noncomputable def ov(b:Bool)(d:D):Option Sl:=if b=true then some ⟨.val,d⟩else none
theorem bX7{b:Bool}{d:D}{r:Sg}{s:Sl}{K:Sg->Prop}:Dv.PK 0 (ov b d::r) s K=K (some s::r):=by cases b<;>rfl
theorem oX{neg:Bool}{d:D}(h:cQ d=true){K:Res->Prop}(k:K (.val (.bl (!neg)))):OK1 (eqD neg d d) K:=by
 have e:yJ d d=true:=PySem.SeqAt.eqv_refl _ (bU h).1
 show OK1 (if _ then _ else none) K
 rw[bI,e]
 refine⟨⟨h,h⟩,?_⟩
 cases neg<;>exact k
theorem oY{m:Nat}(hm:m<=59):∀ (l:List D),(∀ d∈l,cQ d=true/\(hW d).depth<=m)->(cQ (.tup l)=true/\cQ (.lst l)=true)/\(hW (.tup l)).depth<=m+1
 | [],_=>⟨⟨rfl,rfl⟩,by simp[hW,toPys,PyData.depth,PyData.depthAll]⟩
 | d::r,h=>by
   obtain⟨⟨a,b⟩,c⟩:=oY hm r fun x hx=>h x (List.mem_cons_of_mem _ hx)
   obtain⟨p,q⟩:=h d List.mem_cons_self
   obtain⟨a1,b1⟩:=bU p
   obtain⟨a2,b2⟩:=bU a
   have e1:(hW (.tup (d::r))).canLay0=((hW d).canLay0&&(hW (.tup r)).canLay0):=by
    simp only[hW,toPys,PyData.canLay0,PyData.canLayAll0]
   have e2:(hW (.tup (d::r))).depth<=m+1:=by
    simp only[hW,toPys,PyData.depth,PyData.depthAll]at c ⊢
    omega
   refine⟨⟨?_,aF0 d r p b (Nat.le_trans q hm)⟩,e2⟩
   unfold cQ
   rw[Bool.and_eq_true,decide_eq_true_eq,e1,a1,a2]
   exact⟨rfl,by omega⟩
theorem bX8(k:List Int):cQ (tI k)=true/\(hW (tI k)).depth<=1:=by
 obtain⟨⟨a,_⟩,b⟩:=oY (m:=0) (by decide) (k.map D.int) fun d hd=>by
  obtain⟨i,_,rfl⟩:=List.mem_map.mp hd
  exact⟨rfl,Nat.le_refl 0⟩
 exact⟨a,b⟩
theorem aU7(ks:List (List Int)):cQ (.tup (ks.map tI))=true/\cQ (.lst (ks.map tI))=true:=
 (oY (m:=1) (by decide) (ks.map tI) fun d hd=>by
  obtain⟨i,_,rfl⟩:=List.mem_map.mp hd
  exact bX8 i).1
theorem aF7(ns:List Int):cQ (.lst (ns.map D.int))=true:=
 (oY (m:=0) (by decide) (ns.map D.int) fun d hd=>by
  obtain⟨i,_,rfl⟩:=List.mem_map.mp hd
  exact⟨rfl,Nat.le_refl 0⟩).1.2
theorem bB1{zs:List Str}(h:∀ z∈zs,Tx z):cQ (.tup (zs.map D.str))=true:=
 (oY (m:=0) (by decide) (zs.map D.str) fun d hd=>by
  obtain⟨i,hi,rfl⟩:=List.mem_map.mp hd
  exact⟨aA0 (h i hi).2,Nat.le_refl 0⟩).1.1
theorem bX9{l:List D}{K:Res->Prop}:OK1 (aK0 "tuple" (.tup l)) K=K (.val (.bl true)):=rfl
theorem bY0{l:List D}{K:Res->Prop}:OK1 (aK0 "list" (.lst l)) K=K (.val (.bl true)):=rfl
theorem bY1{i j:Int}{K:Res->Prop}:OK1 (eqD true (.int i) (.int j)) K=K (.val (.bl (!decide (i=j)))):=by
 have h:yJ (.int i) (.int j)=decide (i=j):=by
  show(i==j)=_
  rw[Bool.eq_iff_iff];simp
 show OK1 (if cQ (.int i)=true/\cQ (.int j)=true then some (Res.val (.bl (if true then !yJ (.int i) (.int j)else yJ (.int i) (.int j))))else none) K=_
 rw[if_pos ⟨rfl,rfl⟩,h];rfl
local macro_rules | `(tactic| walk_at "dx")=>`(tactic| simp only[↓bX9,↓bY0,↓bY1,↓bX7,↓aS8,↓bU5,↓sK,↓sL,↓sM,↓sN,↓sO,↓sP,↓sQ,↓sR,↓sS,↓sT,↓sU,↓sV,↓sW,↓sX,↓sY,↓sZ,↓aP1,↓tE,↓mG,↓mH,↓mI,↓tF,↓tG,↓mJ,↓mK,↓mL,↓tH,↓tJ,↓aP2,↓tK,↓tL,↓aP3,↓tM,↓tN,↓tO,↓tP,↓tQ,↓mM,↓mO,↓tR,↓tS,↓tT,↓tU,↓tV,↓mP,↓tW,↓mQ,↓tX,↓tY,↓tZ,↓uA,↓uB,↓uC,↓uD,↓uE,↓mR,↓uF,↓uG,↓uH,↓uI,↓uJ,↓uK,↓uL,↓uM,↓uN,↓uO,↓aP4,↓mS,↓jI,↓mT,↓uP,↓mU,↓vD,↓vE,↓vF,↓vG,↓vH,↓vI,↓vJ,↓vK,↓vL,↓oK,↓aP5,↓vM,↓nE,↓jN,↓iA,↓xJ,↓kI,↓aS6,↓xV,↓jS,↓wU,↓wV,↓wW,↓wX,↓wY,↓wZ,↓xA,↓xB,↓vN,↓nG,↓nH,↓nJ,↓vO,↓vP,↓vQ,↓vR,↓vS,↓aP7,↓aP8,↓aP9,↓aQ0,↓vT,↓vV,↓vW,↓nK,↓nM,↓vX,↓nO,↓vY,↓vZ,↓nP,↓jJ,↓wA,↓nQ,↓aQ1,↓vU,↓wB,↓wC,↓wD,↓wE,↓aQ2,↓wG,↓bV2,↓wH,↓aE8,↓rK,↓aE7,bA6,↓aF5,↓aT9,↓aU0,↓aU1,List.getElem?_cons_succ,List.getElem?_cons_zero,Option.getD_some,↓wI,↓wF,↓bE,wN,wO,wP,aI3,aQ3,Int.reducePow,Int.reduceNeg,Int.reduceLT,Int.reduceLE,Nat.reducePow,Nat.reduceLT,Int.reduceToNat,Nat.reduceLeDiff,↓wJ,↓wK,↓wL,↓wM,wS,wQ,aQ4,wR,↓uQ,↓uR,↓uT,↓uU,↓uV,↓uW,↓uX,↓uY,↓uZ,↓mV,↓mW,↓mX,↓mY,↓vA,↓vB,↓vC,mZ,nA,nB,nD,List.set_cons_zero,List.set_cons_succ,dG,aJ8,List.length_cons,List.length_nil,Nat.reduceAdd,Nat.zero_add,true_and,and_true,and_self,Bool.not_false,Bool.not_true,Bool.false_eq_true,Bool.true_and,Bool.and_true,Bool.or_false,↓reduceIte,decide_eq_true_eq])
theorem bY2{α:Type}(y:List α):(y.map fun _=>D.bl true)=(y.map fun _=>true).map D.bl:=by rw[List.map_map];rfl
theorem aF8{α:Type}(y:List α):(y.map fun _=>true).all id=true:=by simp
theorem oZ{cs:List Str}{ks:List (List Int)}{r:D}{m:Md}(hm:m=.par/\r=.lst (ks.map tI)\/m=.val/\r=.tup (ks.map tI))(ht:∀ z∈cs,Tx z)(h:ks.length < 4000/\(srt ks).length < 64/\(2<=(srt ks).length->∀ k∈ks,k≠[]))
  (hq:∀ k∈ks,k.length<=100) {K:Res->List Sl->Prop} (k:K (.val (.bl true)) [⟨.val,.tup [.tup (cs.map D.str),.tup ((srt ks).map tI)]⟩,⟨.val,.tup (cs.map D.str)⟩,⟨m,r⟩]) :
  CK aN [⟨.val,.tup [.tup (cs.map D.str),.tup ((srt ks).map tI)]⟩,⟨.val,.tup (cs.map D.str)⟩,⟨m,r⟩] K:=by
 have sl:∀ y∈srt ks,(y.map D.int).length<=sizeLine:=fun y hy=>by
  rw[List.length_map]
  exact iE (hq y ((eV ks y).mp hy))
 unfold aN
 rw[dH]
 show RS cI [_,_,_,none,none] _
 unfold cI
 rcases hm with⟨rfl,rfl⟩ | ⟨rfl,rfl⟩
 all_goals
  walk_at "dx"
  rw[if_neg (by decide)]
  refine zN (fun i τ=>∃ b d,τ=[_,_,_,ov b d,none]) ⟨false,.non,rfl⟩ ?_ ?_
  ·rintro i d τ hd ⟨b,d',rfl⟩
   rw[List.getElem?_map]at hd
   obtain⟨y,hy,rfl⟩:=Option.map_eq_some_iff.mp hd
   walk_at "dx"
   refine⟨sl y (List.mem_of_getElem? hy),dF (fun _=>.bl true) D.int y [_,_,_,_,none] rfl (fun x hx=>?_) ?_⟩
   ·walk_at "dx"
    refine aF6 ?_
    walk_at "dx"
    exact rfl
   ·rw[bY2 y]
    walk_at "dx"
    rw[aF8]
    exact⟨_,.inl rfl,true,tI y,rfl⟩
  ·rintro σ' ⟨b,d,rfl⟩
   walk_at "dx"
   refine oX (bB1 ht) ?_
   walk_at "dx"
   first
   | refine bA9 h ?_
   | refine bX3 h ?_
   walk_at "dx"
   refine oX (aU7 _).1 ?_
   walk_at "dx"
   exact k
open PySem L2 Dv Sx
theorem aF9{l:List (List Int)}(h:aE2 l):srt l=l:=xQ (gD l) h (eV l)
theorem rL{ks:List (List Int)}{n:Nat}(hk:ks.length<=60)(hr:∀ y∈ks,y.length=n):ks.length < 4000/\(srt ks).length < 64/\(2<=(srt ks).length->∀ k∈ks,k≠[]):=
 ⟨by omega,Nat.lt_of_le_of_lt (oU _) (by omega),aA2 hr⟩
theorem aG0(ns:List Int):(pK ns).length<=ns.length:=by
 unfold pK
 rw[List.length_map]
 exact Nat.le_trans (oU _) (by rw[List.length_map];exact Nat.le_refl _)
noncomputable abbrev tD(cs:List Str)(ks:List (List Int)):D:=.tup [.tup (cs.map D.str),.tup (ks.map tI)]
theorem iF{cs so:List Str}{ks:List (List Int)}(hr:∀ y∈ks,y.length=cs.length)(hs:∀ z∈so,z∈cs)(hl:so.length<=100)(hk:ks.length<=60)(ht:∀ z∈so,Tx z)
  {K:Res->List Sl->Prop} (k:K (.val (.bl true)) [⟨.val,tD cs ks⟩,⟨.val,.tup (so.map D.str)⟩]):CK aU [⟨.val,tD cs ks⟩,⟨.val,.tup (so.map D.str)⟩] K:=by
 unfold aU
 rw[dH]
 show RS cD [_,_,none,none,none] _
 unfold cD
 walk_at "dx"
 refine bX6 hr hs hl hk ?_
 walk_at "dx"
 refine⟨iE (by rw[List.length_map];omega),dF (fun y=>tI (pk cs so y)) tI ks [_,_,_,_,none] rfl (fun y hy=>?_) ?_⟩
 ·walk_at "dx"
  refine cD1 (hr y hy) hs hl ?_
  walk_at "dx"
  exact rfl
 ·refine oZ (ks:=ks.map (pk cs so)) (.inl ⟨rfl,by rw[List.map_map];rfl⟩) ht (rL (n:=so.length) (by rw[List.length_map];exact hk) fun y hy=>?_) (fun y hy=>?_) ?_
  ·obtain⟨x,_,rfl⟩:=List.mem_map.mp hy
   exact List.length_map ..
  ·obtain⟨x,_,rfl⟩:=List.mem_map.mp hy
   exact Nat.le_trans (Nat.le_of_eq (List.length_map ..)) hl
  ·walk_at "dx"
   exact k
theorem lF{cs:List Str}{ks ls:List (List Int)}(he:srt ks=ls){r:D}{m:Md}(hm:m=.par/\r=.lst (ks.map tI)\/m=.val/\r=.tup (ks.map tI))(ht:∀ z∈cs,Tx z)(h:ks.length < 4000/\(srt ks).length < 64/\(2<=(srt ks).length->∀ k∈ks,k≠[]))
  (hq:∀ k∈ks,k.length<=100) {K:Res->List Sl->Prop} (k:K (.val (.bl true)) [⟨.val,tD cs ls⟩,⟨.val,.tup (cs.map D.str)⟩,⟨m,r⟩]) :
  CK aN [⟨.val,tD cs ls⟩,⟨.val,.tup (cs.map D.str)⟩,⟨m,r⟩] K:=by
 subst he
 exact oZ hm ht h hq k
theorem yI{cs:List Str}{z:Str}{ks:List (List Int)}(hr:∀ y∈ks,y.length=cs.length)(hz:z∈cs)(hk:ks.length<=60)
  {K:Res->List Sl->Prop} (k:K (.own (.lst ((pK (ks.map fun y=>y.getD (cs.idxOf z) 0)).map D.int))) [⟨.val,tD cs ks⟩,⟨.val,.str z⟩]):CK cK [⟨.val,tD cs ks⟩,⟨.val,.str z⟩] K:=by
 unfold cK
 rw[dH]
 show RS eD [_,_,none,none] _
 unfold eD
 walk_at "dx"
 refine⟨hz,iE (by rw[List.length_map];omega),dF (fun y=>.int (y.getD (cs.idxOf z) 0)) tI ks [_,_,_,none] rfl (fun y hy=>?_) ?_⟩
 ·walk_at "dx"
  rw[oV (by rw[hr y hy];exact oW hz)]
  exact⟨rfl,rfl⟩
 ·have e:(ks.map fun y=>D.int (y.getD (cs.idxOf z) 0))=(ks.map fun y=>y.getD (cs.idxOf z) 0).map D.int:=by rw[List.map_map];rfl
  rw[e]
  walk_at "dx"
  refine bX4 ⟨by rw[List.length_map];omega,Nat.lt_of_le_of_lt (aG0 _) (by rw[List.length_map];omega)⟩ ?_
  walk_at "dx"
  exact k
theorem bL5{cs:List Str}{z:Str}{ks:List (List Int)}{v:Int}(hr:∀ y∈ks,y.length=cs.length)(hz:z∈cs)(hk:ks.length<=60)
  {K:Res->List Sl->Prop} (k:K (.val (tD cs (ks.filter fun y=>decide (y.getD (cs.idxOf z) 0=v)))) [⟨.val,tD cs ks⟩,⟨.val,.str z⟩,⟨.val,.int v⟩]):CK jU [⟨.val,tD cs ks⟩,⟨.val,.str z⟩,⟨.val,.int v⟩] K:=by
 unfold jU
 rw[dH]
 show RS oR [_,_,_,none,none] _
 unfold oR
 walk_at "dx"
 refine⟨hz,iE (by rw[List.length_map];omega),lE (fun y=>decide (y.getD (cs.idxOf z) 0=v)) tI tI ks [_,_,_,_,none] rfl (fun y hy=>?_) ?_⟩
 ·walk_at "dx"
  rw[oV (by rw[hr y hy];exact oW hz)]
  walk_at "dx"
  exact rfl
 ·walk_at "dx"
  exact⟨sl2,k⟩
theorem gG{cs:List Str}{z:Str}{ks:List (List Int)}{v:Int}(hr:∀ y∈ks,y.length=cs.length)(hz:z∈cs)(hk:ks.length<=60)(hc:cs.length<=6)(ht:∀ z∈cs,Tx z)(hi:aE2 ks)
  {K:Res->List Sl->Prop} (k:K (.val (.bl true)) [⟨.val,tD cs ks⟩,⟨.val,.str z⟩,⟨.val,.int v⟩]):CK bR [⟨.val,tD cs ks⟩,⟨.val,.str z⟩,⟨.val,.int v⟩] K:=by
 have e:(ks.map fun y=>D.int (y.getD (cs.idxOf z) 0))=(ks.map fun y=>y.getD (cs.idxOf z) 0).map D.int:=by rw[List.map_map];rfl
 have hn:(pK (ks.map fun y=>y.getD (cs.idxOf z) 0)).length<=60:=Nat.le_trans (aG0 _) (by rw[List.length_map];exact hk)
 unfold bR
 rw[dH]
 show RS bW [_,_,_,none,none,none,none,none,none,none] _
 unfold bW
 walk_at "dx"
 refine⟨hz,iE (by rw[List.length_map];omega),dF (fun y=>.int (y.getD (cs.idxOf z) 0)) tI ks [_,_,_,_,_,_,none,none,none,none] rfl (fun y hy=>?_) ?_⟩
 ·walk_at "dx"
  rw[oV (by rw[hr y hy];exact oW hz)]
  exact⟨rfl,rfl⟩
 rw[e]
 walk_at "dx"
 refine bX4 ⟨by rw[List.length_map];omega,by omega⟩ ?_
 walk_at "dx"
 refine yI hr hz hk ?_
 walk_at "dx"
 generalize hns:pK (ks.map fun y=>y.getD (cs.idxOf z) 0)=ns at hn
 refine oX (aF7 ns) ?_
 walk_at "dx"
 refine⟨iE (by rw[List.length_map];omega),dF (fun _=>.bl true) D.int ns [_,_,_,_,_,_,_,_,_,none] rfl (fun x hx=>?_) ?_⟩
 ·walk_at "dx"
  refine aF6 ?_
  walk_at "dx"
  exact rfl
 rw[bY2 ns]
 walk_at "dx"
 rw[aF8,if_neg (by decide)]
 show TK "list" 7 [_,_,_,_,_,_,_,some ⟨.own,_⟩,none,none] (MK 7 [_,_,_,_,_,_,_,some ⟨.own,_⟩,none,none] _ _ _)
 walk_at "dx"
 refine⟨Nat.lt_of_lt_of_le (by rw[List.length_map];omega:(ns.map D.int).length < 100) (by decide),?_⟩
 refine bL5 hr hz hk ?_
 walk_at "dx"
 refine⟨iE (by rw[List.length_map];omega),lE (fun y=>decide (y.getD (cs.idxOf z) 0=v)) tI tI ks [_,_,_,_,_,_,_,_,none,none] rfl (fun y hy=>?_) ?_⟩
 ·walk_at "dx"
  rw[oV (by rw[hr y hy];exact oW hz)]
  walk_at "dx"
  exact rfl
 generalize hfs:ks.filter (fun y=>decide (y.getD (cs.idxOf z) 0=v))=fs
 have f1:aE2 fs:=hfs ▸ hi.filter _
 have f2:∀ y∈fs,y.length=cs.length:=fun y hy=>hr y (by subst hfs;exact(List.mem_filter.mp hy).1)
 have f3:fs.length<=60:=by subst hfs;exact Nat.le_trans (List.length_filter_le ..) hk
 refine lF (aF9 f1) (.inl ⟨rfl,rfl⟩) ht (rL f3 f2) (fun y hy=>by rw[f2 y hy];omega) ?_
 walk_at "dx"
 refine yI hr hz hk ?_
 rw[hns]
 walk_at "dx"
 refine oX (aF7 ns) ?_
 walk_at "dx"
 exact k
open PySem L2 Dv Sx
theorem aG1{α β:Type}(f:α->β){ys zs:List β}(h:ys.Perm zs):∀ l:List α,zs=l.map f->∃ l':List α,ys=l'.map f/\l'.Perm l:=by
 induction h with
 | nil=>intro l e;exact⟨l,e,.refl _⟩
 | cons x _ ih=>
   intro l e
   cases l with
   | nil=>cases e
   | cons a r=>
     obtain⟨e1,e2⟩:=List.cons.inj e
     obtain⟨l',h1,h2⟩:=ih r e2
     exact⟨a::l',by rw[e1,h1];rfl,h2.cons a⟩
 | swap x y _=>
   intro l e
   cases l with
   | nil=>cases e
   | cons a r=>
     cases r with
     | nil=>cases e
     | cons b s=>
       obtain⟨e1,e2⟩:=List.cons.inj e
       obtain⟨e3,e4⟩:=List.cons.inj e2
       exact⟨b::a::s,by rw[e1,e3,e4];rfl,.swap a b s⟩
 | trans _ _ i1 i2=>
   intro l e
   obtain⟨l1,h1,h2⟩:=i2 l e
   obtain⟨l2,h3,h4⟩:=i1 l1 h1
   exact⟨l2,h3,h4.trans h2⟩
theorem bE4{α:Type}(f:α->D){l:List α}{i:Int}(h0:0<=i)(h1:i < (l.length:Int)):∃ c,atI (l.map f) i=some (f c)/\c∈l:=by
 obtain⟨c,hc⟩:=aM5 (ys:=l) h0 h1
 exact⟨c,by rw[yS,hc];rfl,yR hc⟩
theorem bL6{e:Int}(h0:0<=e)(h1:e < 2):∃ m:Int,atI [D.int 1000,D.int 3] e=some (.int m)/\0 < m/\m<=1000:=by
 have:e=0\/e=1:=by omega
 rcases this with rfl | rfl
 ·exact⟨1000,rfl,by decide,by decide⟩
 ·exact⟨3,rfl,by decide,by decide⟩
theorem cD2{α:Type}(f:α->D){ks ls:List α}(h:ks.length<=60):∃ l':List α,aU9 ((ks++ls).map f) none (some 60)=(ks++l').map f/\(ks++l').length<=60/\∀ z∈l',z∈ls:=by
 refine⟨ls.take (60-ks.length),?_,?_,fun z hz=>List.mem_of_mem_take hz⟩
 ·have e:HT.sIx ((ks++ls).map f).length ((ks++ls).map f).length (some 60)=min 60 ((ks++ls).map f).length:=HT.sIx_nat _ _ 60
  unfold aU9
  rw[e,HT.sIx_none,List.drop_zero,Nat.sub_zero,← List.map_take,Nat.min_comm,List.length_map]
  have e2:(ks++ls).take (min (ks++ls).length 60)=ks++ls.take (60-ks.length):=by
   rw[Nat.min_comm,← List.take_eq_take_min,List.take_append,List.take_of_length_le h]
  rw[e2]
 ·rw[List.length_append,List.length_take];omega
noncomputable def aA4:DS:=(cL (fM 9 (aX 2 bK (aD (aX 2 cH (aD (aI 0) (aD (dC (.int 2)) aW))) (aD (dSl (aZ iM (aI 5) (dSl (aI 5) aH9 (dP (aX 2 aF (aD (aI 1) (aD (aZ iM (dCB pT (aD (aI 5) aW)) (dC (.int 1))) aW)))))) aH9 (dP (dC (.int 60)))) aW))))
 (cL (aZ0 (dIt (yW (aD (dFz (dCB qU (aD (aI 9) aW))) (aD (dCB sG (aD (aI 9) aW)) aW)))) (dgN 10)
 (rM (dOr (aB3 (gO (aX 3 aN (aD (aX 2 bX (aD (aI 4) (aD (aI 10) aW))) (aD (aI 4) (aD (aI 5) aW)))))) (gO (aZ (eqD true) (dCB qU (aD (aI 10) aW)) (aI 9)))) (iR (dC (.bl false))) iL))
 (iR (sA (aX 2 aU (aD (aI 3) (aD (aI 6) aW))) (aX 2 aU (aD (aI 3) (aD (aI 4) aW)))))))
theorem kC{ns:List Int}{a b:Int}{zs cs so:List Str}{ks:List (List Int)}(c1:cs.length<=6)(c2:∀ z∈cs,Tx z)(c3:ks.length<=60)(c4:∀ y∈ks,y.length=cs.length)(c5:aE2 ks)(sl:so.length<=6)(sm:∀ z∈so,z∈cs)(x7 x8:Bool)(d7 d8:D) :
  RS aA4 [some ⟨.val,.lst (ns.map D.int)⟩,some ⟨.own,.lst [.int a,.int b]⟩,some ⟨.own,.lst (zs.map D.str)⟩,some ⟨.val,tD cs ks⟩,some ⟨.val,.tup (cs.map D.str)⟩,some ⟨.val,.tup (ks.map tI)⟩,some ⟨.val,.tup (so.map D.str)⟩,ov x7 d7,ov x8 d8,none,none]
   (bM7 [⟨.val,.lst (ns.map D.int)⟩] fun y _=>y=.val (.bl true)):=by
 unfold aA4
 walk_at "dx"
 refine aT4 (by decide) (by decide) fun a2 b2=>?_
 walk_at "dx"
 refine bO (by omega) (by rw[List.length_map];omega) fun e a3 b3 _ _=>?_
 obtain⟨p,hp,hpl,hpm⟩:=aA3 tI ks none (some e)
 walk_at "dx"
 rw[hp,← List.map_append]
 obtain⟨p2,hq,hql,hqm⟩:=cD2 tI (ls:=p) c3
 refine⟨Nat.le_trans (by rw[List.length_map,List.length_map];omega:_<=200) (by decide),?_⟩
 rw[hq]
 refine rJ (.inr ⟨rfl,rfl⟩) (by rw[List.length_map];omega) fun ys a4 b4 hy=>?_
 obtain⟨dr,rfl,hd⟩:=aG1 tI hy _ rfl
 have d1:∀ x,x∈dr↔x∈ks:=fun x=>by
  rw[hd.mem_iff,List.mem_append]
  exact⟨fun h=>h.elim id fun h=>hpm x (hqm x h),.inl⟩
 have d2:srt dr=ks:=xQ (gD dr) c5 fun x=>(eV dr x).trans (d1 x)
 have d3:dr.length<=60:=by rw[hd.length_eq];exact hql
 have d4:∀ y∈dr,y.length=cs.length:=fun y hy=>c4 y ((d1 y).mp hy)
 walk_at "dx"
 refine⟨sl2,zN (fun i τ=>∃ x d,τ=[_,_,_,_,_,_,_,_,_,_,ov x d]) ⟨false,.non,rfl⟩ ?_ ?_⟩
 ·rintro i d τ hi ⟨x,dd,rfl⟩
  have hd2:d=.lst (dr.map tI)\/d=.tup (dr.map tI):=by
   have:=List.mem_of_getElem? hi
   simpa using this
  rcases hd2 with rfl | rfl
  all_goals
   walk_at "dx"
   refine bE3 (ks:=dr) (by first | exact .inr ⟨rfl,rfl⟩ | exact .inl ⟨.inr rfl,rfl⟩) (rL d3 d4) ?_
   walk_at "dx"
   refine lF (ks:=ks) (by rw[d2,aF9 c5]) (.inr ⟨rfl,rfl⟩) c2 (rL c3 c4) (fun y hy=>by rw[c4 y hy];omega) ?_
   walk_at "dx"
   refine oX (aU7 dr).2 ?_
   walk_at "dx"
   exact⟨_,.inl rfl,true,_,rfl⟩
 ·rintro τ ⟨x,dd,rfl⟩
  walk_at "dx"
  refine iF c4 sm (by omega) c3 (fun z hz=>c2 z (sm z hz)) ?_
  walk_at "dx"
  refine iF c4 (fun z hz=>hz) (by omega) c3 c2 ?_
  walk_at "dx"
theorem bB2(ns:List Int)(hn:ns.length<=63):∃ as',kM [⟨.val,.lst (ns.map D.int)⟩]=some (.val (.bl true),as'):=by
 suffices h:CK kM [⟨.val,.lst (ns.map D.int)⟩] fun y _=>y=.val (.bl true) by
  obtain⟨⟨y,as'⟩,e,rfl⟩:=aP0.mp h
  exact⟨as',e⟩
 unfold kM
 rw[dH]
 show RS yB [_,none,none,none,none,none,none,none,none,none,none] _
 rw[show yB=cL _ (cL _ (cL _ (cL _ (cL _ (cL _ (cL _ aA4))))))from rfl]
 walk_at "dx"
 refine aT4 (by decide) (by decide) fun a b=>?_
 walk_at "dx"
 refine bA8 fun zs a1 b1 hz6 hzt=>?_
 walk_at "dx"
 refine aT4 (by decide) (by decide) fun a2 b2=>?_
 walk_at "dx"
 refine bB0 hz6 hzt fun cs ks a3 b3 c1 c2 c3 c4 c5=>?_
 walk_at "dx"
 refine rJ (.inr ⟨rfl,rfl⟩) (by rw[List.length_map];omega) fun ys a4 b4 hp=>?_
 obtain⟨ds,rfl,hp2⟩:=aG1 D.str hp cs rfl
 walk_at "dx"
 refine bO (by omega) (by rw[List.length_map];omega) fun e a5 b5 e0 e1=>?_
 obtain⟨so,hso,hsl,hsm⟩:=aA3 D.str ds none (some e)
 walk_at "dx"
 rw[hso]
 have dl:=hp2.length_eq
 have sm:∀ z∈so,z∈cs:=fun z hz=>hp2.mem_iff.mp (hsm z hz)
 refine iF c4 sm (by omega) c3 (fun z hz=>c2 z (sm z hz)) ?_
 walk_at "dx"
 split
 ·rename_i hpos
  rw[List.length_map]at hpos
  refine bO (by rw[List.length_map];exact hpos) (by rw[List.length_map];omega) fun i1 a6 b6 i0 i1'=>?_
  obtain⟨z,hz,hzm⟩:=bE4 D.str i0 (by rw[List.length_map]at i1';exact i1')
  walk_at "dx"
  rw[hz]
  walk_at "dx"
  refine⟨sl2,bO (by decide) (by decide) fun i2 a7 b7 i20 i21=>?_⟩
  obtain⟨m,hm,m0,m1⟩:=bL6 i20 i21
  walk_at "dx"
  rw[hm]
  walk_at "dx"
  refine bO m0 (by omega) fun v a8 b8 _ _=>?_
  walk_at "dx"
  split
  ·rename_i hk0
   rw[List.length_map]at hk0
   refine bO (by decide) (by decide) fun i3 a9 b9 _ _=>?_
   walk_at "dx"
   split
   ·refine bO (by rw[List.length_map];exact hk0) (by rw[List.length_map];omega) fun i4 a10 b10 i40 i41=>?_
    obtain⟨y,hy,hym⟩:=bE4 tI i40 (by rw[List.length_map]at i41;exact i41)
    walk_at "dx"
    rw[hy]
    walk_at "dx"
    refine⟨hzm,?_⟩
    rw[oV (by rw[c4 y hym];exact oW hzm)]
    walk_at "dx"
    refine gG c4 hzm c3 c1 c2 c5 ?_
    walk_at "dx"
    exact kC c1 c2 c3 c4 c5 (by omega) sm true true (.str z) (.int _)
   ·refine gG c4 hzm c3 c1 c2 c5 ?_
    walk_at "dx"
    exact kC c1 c2 c3 c4 c5 (by omega) sm true true (.str z) (.int _)
  ·refine gG c4 hzm c3 c1 c2 c5 ?_
   walk_at "dx"
   exact kC c1 c2 c3 c4 c5 (by omega) sm true true (.str z) (.int _)
 ·exact kC c1 c2 c3 c4 c5 (by omega) sm false false .non .non
open PySem L2 Dv
noncomputable def adr:Adr:=⟨53,Hd.bN4,60,Hd.bN5,72,Hd.bN7,67,Hd.bN6,77,Hd.bN8,84,Hd.bN9,91,Hd.bO0,96,Hd.bO1,101,Hd.bB4,26,Hd.bM9,21,Hd.bM8,31,Hd.bN0,36,Hd.bN1,106,Hd.bB5,46,Hd.bN3,41,Hd.bN2,111,Hd.bB6,118,Hd.aA5⟩
theorem rN{K:PySem.W.Frag}{x q:Str}{s:Stmt}{f:Addr}{fd:FuncData}(m:Value)(c:Addr)(e:fd=PySem.W.fnOf x q (yN s) (jX s) (aO s) .none .none .none m none (.ref c) .none)(l:K.lookup f=some ⟨.type "function",none,.func fd,#[]⟩)(d:PySem.W.codeIn K (.ref c) q=true)(k:PySem.W.keepIn K (.ref f)=true):Fun K x q s f fd:=⟨⟨_,_,_,_,_,_,_,_,_,e,l,d⟩,k⟩
theorem txt{P:Params}{h:Heap}{mg:Str->Option Value}(X:(Hd.KF P).In h)(G:h.Ns mainGlobals mg):Txt (Hd.KF P) mg adr:=⟨PySem.W.mg_of X G (by kernel_rfl),
rN (.str "law_mostrows_k13_cut_kept_made" 227) 52 (by kernel_rfl) (by kernel_rfl) (by kernel_rfl) (by kernel_rfl),
PySem.W.mg_of X G (by kernel_rfl),
rN (.str "law_mostrows_k13_cut_kept_made" 227) 59 (by kernel_rfl) (by kernel_rfl) (by kernel_rfl) (by kernel_rfl),
PySem.W.mg_of X G (by kernel_rfl),
rN (.str "law_mostrows_k13_cut_kept_made" 227) 71 (by kernel_rfl) (by kernel_rfl) (by kernel_rfl) (by kernel_rfl),
PySem.W.mg_of X G (by kernel_rfl),
rN (.str "law_mostrows_k13_cut_kept_made" 227) 66 (by kernel_rfl) (by kernel_rfl) (by kernel_rfl) (by kernel_rfl),
PySem.W.mg_of X G (by kernel_rfl),
rN (.str "law_mostrows_k13_cut_kept_made" 227) 76 (by kernel_rfl) (by kernel_rfl) (by kernel_rfl) (by kernel_rfl),
PySem.W.mg_of X G (by kernel_rfl),
rN (.str "law_mostrows_k13_cut_kept_made" 227) 83 (by kernel_rfl) (by kernel_rfl) (by kernel_rfl) (by kernel_rfl),
PySem.W.mg_of X G (by kernel_rfl),
rN (.str "law_mostrows_k13_cut_kept_made" 227) 90 (by kernel_rfl) (by kernel_rfl) (by kernel_rfl) (by kernel_rfl),
PySem.W.mg_of X G (by kernel_rfl),
rN (.str "law_mostrows_k13_cut_kept_made" 227) 95 (by kernel_rfl) (by kernel_rfl) (by kernel_rfl) (by kernel_rfl),
PySem.W.mg_of X G (by kernel_rfl),
rN (.str "law_mostrows_k13_cut_kept_made" 227) 100 (by kernel_rfl) (by kernel_rfl) (by kernel_rfl) (by kernel_rfl),
PySem.W.mg_of X G (by kernel_rfl),
rN (.str "mostrows.tables" 187) 25 (by kernel_rfl) (by kernel_rfl) (by kernel_rfl) (by kernel_rfl),
PySem.W.mg_of X G (by kernel_rfl),
rN (.str "mostrows.tables" 187) 20 (by kernel_rfl) (by kernel_rfl) (by kernel_rfl) (by kernel_rfl),
PySem.W.mg_of X G (by kernel_rfl),
rN (.str "mostrows.tables" 187) 30 (by kernel_rfl) (by kernel_rfl) (by kernel_rfl) (by kernel_rfl),
PySem.W.mg_of X G (by kernel_rfl),
rN (.str "mostrows.tables" 187) 35 (by kernel_rfl) (by kernel_rfl) (by kernel_rfl) (by kernel_rfl),
PySem.W.mg_of X G (by kernel_rfl),
rN (.str "law_mostrows_k13_cut_kept_made" 227) 105 (by kernel_rfl) (by kernel_rfl) (by kernel_rfl) (by kernel_rfl),
PySem.W.mg_of X G (by kernel_rfl),
rN (.str "mostrows.tables" 187) 45 (by kernel_rfl) (by kernel_rfl) (by kernel_rfl) (by kernel_rfl),
PySem.W.mg_of X G (by kernel_rfl),
rN (.str "mostrows.tables" 187) 40 (by kernel_rfl) (by kernel_rfl) (by kernel_rfl) (by kernel_rfl),
PySem.W.mg_of X G (by kernel_rfl),
rN (.str "law_mostrows_k13_cut_kept_made" 227) 110 (by kernel_rfl) (by kernel_rfl) (by kernel_rfl) (by kernel_rfl),
PySem.W.mg_of X G (by kernel_rfl),
rN (.str "law_mostrows_k13_cut_kept_made" 227) 117 (by kernel_rfl) (by kernel_rfl) (by kernel_rfl) (by kernel_rfl),
PySem.W.mg_none_of X G (by kernel_rfl),
PySem.W.mg_none_of X G (by kernel_rfl),
PySem.W.mg_none_of X G (by kernel_rfl),
PySem.W.mg_none_of X G (by kernel_rfl),
PySem.W.mg_none_of X G (by kernel_rfl),
PySem.W.mg_none_of X G (by kernel_rfl),
PySem.W.mg_none_of X G (by kernel_rfl),
PySem.W.mg_none_of X G (by kernel_rfl),
PySem.W.mg_none_of X G (by kernel_rfl),
PySem.W.mg_none_of X G (by kernel_rfl)⟩
theorem bY3{P:Program}{w:World}{mg:Str->Option Value}{base:Heap}(T:Txt (Hd.KF w.params) mg adr):FnOk P w (Hd.KF w.params) mg base CX0 4 118 Hd.aA5 ["_law_script"] (dsp 1 kM):=by
 have G_law_box:=aJ3 (P:=P) (w:=w) (base:=base) T
 have G_law_take:=zX (P:=P) (w:=w) (base:=base) T
 have G_law_names:=yC (P:=P) (w:=w) (base:=base) T G_law_take
 have G_law_order:=yD (P:=P) (w:=w) (base:=base) T G_law_take
 have G_law_rows:=zY (P:=P) (w:=w) (base:=base) T G_law_take
 have G_law_table:=yE (P:=P) (w:=w) (base:=base) T G_law_order G_law_take G_law_rows
 have G_law_whole:=yF (P:=P) (w:=w) (base:=base) T
 have G_law_is_table:=oS (P:=P) (w:=w) (base:=base) T G_law_whole
 have G_law_at:=aT1 (P:=P) (w:=w) (base:=base) T
 have G_places_of:=yG (P:=P) (w:=w) (base:=base) T
 have G_table_of:=zZ (P:=P) (w:=w) (base:=base) T
 have G_picked:=aT2 (P:=P) (w:=w) (base:=base) T
 have G_cut:=bW6 (P:=P) (w:=w) (base:=base) T G_places_of G_table_of G_picked
 have G_law_cut_right:=lJ (P:=P) (w:=w) (base:=base) T G_law_is_table G_law_at G_cut
 have G_values_in:=yH (P:=P) (w:=w) (base:=base) T
 have G_kept:=bL2 (P:=P) (w:=w) (base:=base) T
 have G_law_kept_right:=kO (P:=P) (w:=w) (base:=base) T G_values_in G_law_whole G_law_is_table G_kept
 have G_law:=bW7 (P:=P) (w:=w) (base:=base) T G_law_box G_law_names G_law_table G_law_order G_law_take G_law_cut_right G_law_kept_right G_law_is_table G_table_of
 exact G_law
theorem bB3:PySem.W.WalkO Hd.Vw [] (PySem.W.XL Hd.Vw []) (PySem.W.InK Hd.KF) PySem.Challenge.rw_mostrows_k13_cut_kept_made.row.toRowW Hd.bZ2 [] (fun f vs=>PySem.call f vs):=by
 refine L2.bG4 (l:=PySem.Challenge.rw_mostrows_k13_cut_kept_made) (K:=Hd.KF) (n:=63) (k:=4) (x:="_law_script") (CX:=fun _=>CX0) (sp:=fun w=>dsp 1 kM) rfl (by decide) (by kernel_rfl) ⟨rfl,by decide,by decide⟩ (fun w h Y=>Y) (fun w mg fa h X G e=>?_) (fun w _ a ns hl hO hS=>aO9 (by kernel_rfl) hO hS (bB2 ns hl)) fun _ _ _ _ _ z=>z
 have T:=txt X G
 have e2:=T.m_law.symm.trans e
 cases e2
 exact⟨Hd.aA5,fun s v=>.of_eq (by kernel_rfl),fun base _ _=>bY3 T⟩
end Mr
open PySem PySem.W PyProof.Rows
theorem PySem.Challenge.cw_mostrows_k13_cut_kept_made_holds : PySem.Challenge.rw_mostrows_k13_cut_kept_made.Holds :=
 Hd.ends Mr.bB3
#print axioms PySem.Challenge.cw_mostrows_k13_cut_kept_made_holds
