import PyProof.Rows.All
import Wide.All
import OpenK.AllK
import Wide.FinOn
import Lean
import PyProof.EqAt
import PyProof.EqKinds
import PyProof.TupleCall
import PyProof.StationsW
import PyProof.RulesAs
import PyProof.ExcClass2
import PyProof.Rows.Exc
import OpenK.KMake
import PyProof.InstStoreFacts
import OpenK.KCls
import PyProof.ExcArgsOwn
import PyProof.ExcAttrAll.ValueError
import PyProof.FitsInt
import PyProof.FString
import PyProof.FString4
import PyProof.StrLawsRepr
import PyProof.NsDelKeeps
import PyProof.NoPylong
import PyProof.FitsBits
import PyProof.Rows.RuleM_int
import PyProof.P3In
import PyProof.NeData
import PyProof.Draws
import PyProof.ZipIter
import PyProof.EnumMake
import PyProof.WalksMore
import PyProof.SetNew
import PyProof.SetKind
import PyProof.Rows.SetFrom
import PyProof.AttrMissHeap
import PyProof.ListMulAny
import PySem.Challenge.RW_mostrows_k47_ears_looked_at
set_option Elab.async false
set_option linter.all false
set_option maxRecDepth 100000
set_option maxHeartbeats 4000000
namespace Hd
open PySem PySem.W
noncomputable def top(i:Nat):Stmt:=PySem.Challenge.pw_mostrows_k47_ears_looked_at.main.body.getD i (.Pass ⟨0,0,0,0⟩)
noncomputable def kG(x q:Str)(s:Stmt)(m:Value)(c:Addr):FuncData:=match s with
 | .FunctionDef _ a b _ _ _ e _ _ _=>fnOf x q a b e .none .none .none m none (.ref c) .none
 | _=>default
noncomputable def cM7:DefRec:=match top 23 with
 | .FunctionDef n a b _ _ _ e _ _ p=>⟨n,a,b,e,p⟩
 | _=>⟨"",default,[],default,default⟩
noncomputable def kE(P:Params)(x:Str)(t:Tok)(v:Value):DictEntry:=⟨PyData.keyHash P x,.str x t,v⟩
noncomputable def kT(l:List Value):Obj:=⟨.type "tuple",none,.seq l.toArray 0,#[]⟩
noncomputable def kF(f:FuncData):Obj:=⟨.type "function",none,.func f,#[]⟩
noncomputable def bX5:=kG "columns_of" "columns_of" (top 1) (.str "mostrows.questions" 187) 18
noncomputable def bX6:=kG "without" "without" (top 3) (.str "mostrows.ears" 195) 23
noncomputable def bX7:=kG "has_all" "has_all" (top 4) (.str "mostrows.ears" 195) 28
noncomputable def bX8:=kG "holders_of" "holders_of" (top 5) (.str "mostrows.ears" 195) 33
noncomputable def bX9:=kG "ears_in" "ears_in" (top 6) (.str "mostrows.ears" 195) 38
noncomputable def bY0:=kG "ears_show" "ears_show" (top 7) (.str "mostrows.ears" 195) 45
noncomputable def bY1:=kG "_law_box" "_law_box" (top 9) (.str "law_mostrows_k47_ears_looked_at" 232) 52
noncomputable def bY2:=kG "_law_take" "_law_take" (top 10) (.str "law_mostrows_k47_ears_looked_at" 232) 59
noncomputable def bY3:=kG "_law_names" "_law_names" (top 11) (.str "law_mostrows_k47_ears_looked_at" 232) 64
noncomputable def bY4:=kG "_law_shuffled" "_law_shuffled" (top 12) (.str "law_mostrows_k47_ears_looked_at" 232) 71
noncomputable def bY5:=kG "_law_some" "_law_some" (top 13) (.str "law_mostrows_k47_ears_looked_at" 232) 78
noncomputable def bY6:=kG "_law_plain_sets" "_law_plain_sets" (top 14) (.str "law_mostrows_k47_ears_looked_at" 232) 83
noncomputable def bY7:=kG "_law_round_sets" "_law_round_sets" (top 15) (.str "law_mostrows_k47_ears_looked_at" 232) 88
noncomputable def bY8:=kG "_law_question" "_law_question" (top 16) (.str "law_mostrows_k47_ears_looked_at" 232) 93
noncomputable def bG8:=kG "_law_holders" "_law_holders" (top 18) (.str "law_mostrows_k47_ears_looked_at" 232) 103
noncomputable def bG9:=kG "_law_shows" "_law_shows" (top 19) (.str "law_mostrows_k47_ears_looked_at" 232) 108
noncomputable def bH0:=kG "_law_begun" "_law_begun" (top 20) (.str "law_mostrows_k47_ears_looked_at" 232) 113
noncomputable def bH1:=kG "_law_spoilt" "_law_spoilt" (top 21) (.str "law_mostrows_k47_ears_looked_at" 232) 118
noncomputable def bH2:=kG "_law_truth" "_law_truth" (top 22) (.str "law_mostrows_k47_ears_looked_at" 232) 125
noncomputable def xL:=kG "law" "law" (top 23) (.str "law_mostrows_k47_ears_looked_at" 232) 132
noncomputable def kC(x:Str)(a:Tok)(q:Str)(b c:Tok)(d e f:Int)(g:Addr)(h:Int)(i j k l:Addr)(m n:Int)(o:Tok):Obj:=⟨.type "code",none,.fields #[.str x a,.str q b,.str "/claim/cut.py" c,.int d 0,.int e 0,.int 0 0,.int 0 0,.int f 0,.ref g,.bool true,.int h 0,.ref i,.none,.ref j,.ref k,.ref l,.int m 0,.int n 0,.str "/claim/cut.py" o],#[]⟩
noncomputable def KF(P:Params):PySem.W.Frag:=[
(2,⟨.none,none,(.dict #[] 0),#[]⟩),
(3,⟨(.type "dict"),none,(.dict #[kE P "__name__" 165 (.str "law_mostrows_k47_ears_looked_at" 232),kE P "__doc__" 166 .none,kE P "__package__" 167 .none,kE P "__loader__" 168 (.builtin "__main__.__loader__#opaque"),kE P "__spec__" 169 .none,kE P "__annotations__" 170 (.ref 6),kE P "__builtins__" 171 (.ref 4),kE P "__file__" 173 (.str "/claim/cut.py" 172),kE P "__cached__" 174 .none,kE P "columns_of" 194 (.ref 19),kE P "without" 202 (.ref 24),kE P "has_all" 208 (.ref 29),kE P "holders_of" 214 (.ref 34),kE P "ears_in" 220 (.ref 39),kE P "ears_show" 231 (.ref 46),kE P "_law_box" 243 (.ref 53),kE P "_law_take" 253 (.ref 60),kE P "_law_names" 259 (.ref 65),kE P "_law_shuffled" 269 (.ref 72),kE P "_law_some" 277 (.ref 79),kE P "_law_plain_sets" 283 (.ref 84),kE P "_law_round_sets" 289 (.ref 89),kE P "_law_question" 295 (.ref 94),kE P "_law_columns" 301 (.ref 99),kE P "_law_holders" 307 (.ref 104),kE P "_law_shows" 313 (.ref 109),kE P "_law_begun" 319 (.ref 114),kE P "_law_spoilt" 325 (.ref 119),kE P "_law_truth" 333 (.ref 126),kE P "law" 347 (.ref 133)] 30),#[]⟩),
(15,kT []),
(18,⟨(.type "code"),none,(.fields #[(.str "columns_of" 189),(.str "columns_of" 190),(.str "/claim/cut.py" 191),(.int 2 0),(.int 1 0),(.int 0 0),(.int 0 0),(.int 3 0),(.ref 15),(.bool true),(.int 181 0),(.ref 16),.none,.none,.none,(.ref 17),(.int 192 0),(.int 2 0),(.str "/claim/cut.py" 193)]),#[]⟩),
(19,kF bX5),
(20,kT []),
(23,⟨(.type "code"),none,(.fields #[(.str "without" 197),(.str "without" 198),(.str "/claim/cut.py" 199),(.int 8 0),(.int 2 0),(.int 0 0),(.int 0 0),(.int 3 0),(.ref 20),(.bool true),(.int 181 0),(.ref 21),.none,.none,.none,(.ref 22),(.int 200 0),(.int 8 0),(.str "/claim/cut.py" 201)]),#[]⟩),
(24,kF bX6),
(25,kT []),
(28,⟨(.type "code"),none,(.fields #[(.str "has_all" 203),(.str "has_all" 204),(.str "/claim/cut.py" 205),(.int 10 0),(.int 2 0),(.int 0 0),(.int 0 0),(.int 3 0),(.ref 25),(.bool true),(.int 181 0),(.ref 26),.none,.none,.none,(.ref 27),(.int 206 0),(.int 10 0),(.str "/claim/cut.py" 207)]),#[]⟩),
(29,kF bX7),
(30,kT []),
(33,⟨(.type "code"),none,(.fields #[(.str "holders_of" 209),(.str "holders_of" 210),(.str "/claim/cut.py" 211),(.int 12 0),(.int 3 0),(.int 0 0),(.int 0 0),(.int 3 0),(.ref 30),(.bool true),(.int 181 0),(.ref 31),.none,.none,.none,(.ref 32),(.int 212 0),(.int 12 0),(.str "/claim/cut.py" 213)]),#[]⟩),
(34,kF bX8),
(35,kT []),
(38,⟨(.type "code"),none,(.fields #[(.str "ears_in" 215),(.str "ears_in" 216),(.str "/claim/cut.py" 217),(.int 18 0),(.int 1 0),(.int 0 0),(.int 0 0),(.int 3 0),(.ref 35),(.bool true),(.int 181 0),(.ref 36),.none,.none,.none,(.ref 37),(.int 218 0),(.int 18 0),(.str "/claim/cut.py" 219)]),#[]⟩),
(39,kF bX9),
(40,kT []),
(42,kT [(.str "question" 224),(.str "some" 225),(.str "left" 226),(.str "name" 227),(.str "holder" 228)]),
(43,kT []),
(45,kC "ears_show" 221 "ears_show" 222 223 23 2 3 40 181 41 42 43 44 229 23 230),
(46,kF bY0),
(47,kT []),
(49,kT [(.str "_law_script" 237),(.str "_law_k" 238),(.str "_law_cell" 239),(.str "_law_seed" 240)]),
(50,kT []),
(52,kC "_law_box" 234 "_law_box" 235 236 31 2 3 47 181 48 49 50 51 241 31 242),
(53,kF bY1),
(54,kT []),
(56,kT [(.str "_law_box_here" 247),(.str "_law_many" 248),(.str "_law_digit" 249),(.str "_law_one" 250)]),
(57,kT []),
(59,kC "_law_take" 244 "_law_take" 245 246 39 2 3 54 181 55 56 57 58 251 39 252),
(60,kF bY2),
(61,kT []),
(64,⟨(.type "code"),none,(.fields #[(.str "_law_names" 254),(.str "_law_names" 255),(.str "/claim/cut.py" 256),(.int 47 0),(.int 2 0),(.int 0 0),(.int 0 0),(.int 3 0),(.ref 61),(.bool true),(.int 181 0),(.ref 62),.none,.none,.none,(.ref 63),(.int 257 0),(.int 47 0),(.str "/claim/cut.py" 258)]),#[]⟩),
(65,kF bY3),
(66,kT []),
(68,kT [(.str "_law_box_here" 263),(.str "_law_things" 264),(.str "_law_left" 265),(.str "_law_found" 266)]),
(69,kT []),
(71,kC "_law_shuffled" 260 "_law_shuffled" 261 262 61 2 3 66 181 67 68 69 70 267 61 268),
(72,kF bY4),
(73,kT []),
(75,kT [(.str "_law_box_here" 273),(.str "_law_things" 274)]),
(76,kT []),
(78,kC "_law_some" 270 "_law_some" 271 272 67 2 3 73 181 74 75 76 77 275 67 276),
(79,kF bY5),
(80,kT []),
(83,⟨(.type "code"),none,(.fields #[(.str "_law_plain_sets" 278),(.str "_law_plain_sets" 279),(.str "/claim/cut.py" 280),(.int 69 0),(.int 1 0),(.int 0 0),(.int 0 0),(.int 3 0),(.ref 80),(.bool true),(.int 181 0),(.ref 81),.none,.none,.none,(.ref 82),(.int 281 0),(.int 69 0),(.str "/claim/cut.py" 282)]),#[]⟩),
(84,kF bY6),
(85,kT []),
(88,⟨(.type "code"),none,(.fields #[(.str "_law_round_sets" 284),(.str "_law_round_sets" 285),(.str "/claim/cut.py" 286),(.int 85 0),(.int 1 0),(.int 0 0),(.int 0 0),(.int 3 0),(.ref 85),(.bool true),(.int 181 0),(.ref 86),.none,.none,.none,(.ref 87),(.int 287 0),(.int 85 0),(.str "/claim/cut.py" 288)]),#[]⟩),
(89,kF bY7),
(90,kT []),
(93,⟨(.type "code"),none,(.fields #[(.str "_law_question" 290),(.str "_law_question" 291),(.str "/claim/cut.py" 292),(.int 99 0),(.int 1 0),(.int 0 0),(.int 0 0),(.int 3 0),(.ref 90),(.bool true),(.int 181 0),(.ref 91),.none,.none,.none,(.ref 92),(.int 293 0),(.int 99 0),(.str "/claim/cut.py" 294)]),#[]⟩),
(94,kF bY8),
(100,kT []),
(103,⟨(.type "code"),none,(.fields #[(.str "_law_holders" 302),(.str "_law_holders" 303),(.str "/claim/cut.py" 304),(.int 118 0),(.int 2 0),(.int 0 0),(.int 0 0),(.int 3 0),(.ref 100),(.bool true),(.int 181 0),(.ref 101),.none,.none,.none,(.ref 102),(.int 305 0),(.int 118 0),(.str "/claim/cut.py" 306)]),#[]⟩),
(104,kF bG8),
(105,kT []),
(108,⟨(.type "code"),none,(.fields #[(.str "_law_shows" 308),(.str "_law_shows" 309),(.str "/claim/cut.py" 310),(.int 123 0),(.int 2 0),(.int 0 0),(.int 0 0),(.int 3 0),(.ref 105),(.bool true),(.int 181 0),(.ref 106),.none,.none,.none,(.ref 107),(.int 311 0),(.int 123 0),(.str "/claim/cut.py" 312)]),#[]⟩),
(109,kF bG9),
(110,kT []),
(113,⟨(.type "code"),none,(.fields #[(.str "_law_begun" 314),(.str "_law_begun" 315),(.str "/claim/cut.py" 316),(.int 134 0),(.int 2 0),(.int 0 0),(.int 0 0),(.int 3 0),(.ref 110),(.bool true),(.int 181 0),(.ref 111),.none,.none,.none,(.ref 112),(.int 317 0),(.int 134 0),(.str "/claim/cut.py" 318)]),#[]⟩),
(114,kF bH0),
(115,kT []),
(118,⟨(.type "code"),none,(.fields #[(.str "_law_spoilt" 320),(.str "_law_spoilt" 321),(.str "/claim/cut.py" 322),(.int 148 0),(.int 3 0),(.int 0 0),(.int 0 0),(.int 3 0),(.ref 115),(.bool true),(.int 181 0),(.ref 116),.none,.none,.none,(.ref 117),(.int 323 0),(.int 148 0),(.str "/claim/cut.py" 324)]),#[]⟩),
(119,kF bH1),
(120,kT []),
(122,kT [(.str "_law_found" 329),(.str "_law_due" 330)]),
(123,kT []),
(125,kC "_law_truth" 326 "_law_truth" 327 328 167 2 3 120 181 121 122 123 124 331 167 332),
(126,kF bH2),
(127,kT []),
(129,kT [(.str "_law_script" 337),(.str "_law_question_here" 338),(.str "_law_good" 339),(.str "_law_lists" 340),(.str "_law_k" 341),(.str "_law_box_here" 342),(.str "_law_some_here" 343),(.str "_law_handed" 344)]),
(130,kT []),
(132,kC "law" 334 "law" 335 336 169 1 3 127 181 128 129 130 131 345 169 346),
(133,kF xL)]
noncomputable def Vw:Program:=view PySem.Challenge.pw_mostrows_k47_ears_looked_at [1,3,4,5,6,7,9,10,11,12,13,14,15,16,17,18,19,20,21,22,23]
theorem cS7:PySem.Challenge.rw_mostrows_k47_ears_looked_at.wellSaid=true:=by kernel_rfl
theorem aI:LeftO PySem.Challenge.rw_mostrows_k47_ears_looked_at.row.prog Vw [] (fun s=>xlAt Vw [] s&&recOk (RowW.records PySem.Challenge.rw_mostrows_k47_ears_looked_at.row.toRowW) s) (fun s=>[2,3,15,18,19,20,23,24,25,28,29,30,33,34,35,38,39,40,42,43,45,46,47,49,50,52,53,54,56,57,59,60,61,64,65,66,68,69,71,72,73,75,76,78,79,80,83,84,85,88,89,90,93,94,100,103,104,105,108,109,110,113,114,115,118,119,120,122,123,125,126,127,129,130,132,133].map s.heap.get?) (fun w=>(KF w.params).map fun p=>some p.2) 1358:=fun w=>by kernel_rfl
theorem cS8(h:WalkO Vw [] (XL Vw []) (InK KF) PySem.Challenge.rw_mostrows_k47_ears_looked_at.row.toRowW cM7 [] (fun f vs=>PySem.call f vs)):PySem.Challenge.rw_mostrows_k47_ears_looked_at.Holds:=
 holds_law cS7 fun e=>holds_open (d:=cM7) (kwd:=[]) aI (InK.of fun _=>by kernel_rfl) InK.keeps (fun s e=>xl_of s (Bool.and_eq_true_iff.mp e).1) XL.keeps (by kernel_rfl) (by kernel_rfl) (by kernel_rfl) (fun s e=>recFacts_of (Bool.and_eq_true_iff.mp e).2) (by kernel_rfl) e (by kernel_rfl) ⟨rfl,rfl,rfl,rfl,rfl,by decide +kernel⟩ (by w_witness2) h
end Hd
namespace L2
open PySem PySem.Spec PyProof.Rows
noncomputable abbrev Key:=Sum Int Str
noncomputable def zK:Key->Value->Bool
 | .inl k,v=>Value.isInt k v
 | .inr x,v=>Value.isStrOf x v
noncomputable def cS9(w:World):Key->Int
 | .inl k=>hashInt k
 | .inr x=>hashStr w x
theorem cS:∀ {k:Key} {v:Value},zK k v=true->(∃ i t,k=Sum.inl i/\v=Value.int i t)\/(∃ x t,k=Sum.inr x/\v=Value.str x t)
 | .inl i,v,h=>by
   obtain⟨t,e⟩:=Value.isInt_shape (k:=i) (v:=v) h
   exact .inl ⟨i,t,rfl,e⟩
 | .inr x,v,h=>by
   obtain⟨t,e⟩:=Value.isStrOf_shape (x:=x) (v:=v) h
   exact .inr ⟨x,t,rfl,e⟩
theorem aD1(i:Int)(t:Tok):zK (.inl i) (.int i t)=true:=by simp[zK,Value.isInt]
theorem aD2(x:Str)(t:Tok):zK (.inr x) (.str x t)=true:=by simp[zK,Value.isStrOf]
theorem bY9(a b:Int):decide ((Sum.inl a:Key)=Sum.inl b)=(a==b):=by
 by_cases e:a=b
 ·subst e;simp
 ·have h:¬ (Sum.inl a:Key)=Sum.inl b:=fun q=>e (Sum.inl.inj q)
  rw[decide_eq_false h]
  exact(beq_eq_false_iff_ne.mpr e).symm
theorem bZ0(a b:Str):decide ((Sum.inr a:Key)=Sum.inr b)=decide (a=b):=by
 by_cases e:a=b
 ·subst e;simp
 ·have h:¬ (Sum.inr a:Key)=Sum.inr b:=fun q=>e (Sum.inr.inj q)
  rw[decide_eq_false h,decide_eq_false e]
theorem bZ1(a:Int)(b:Str):decide ((Sum.inl a:Key)=Sum.inr b)=false:=decide_eq_false (fun q=>nomatch q)
theorem bZ2(a:Str)(b:Int):decide ((Sum.inr a:Key)=Sum.inl b)=false:=decide_eq_false (fun q=>nomatch q)
noncomputable def eV(prog:Program)(w:World):PySem.KeyKind prog w Key where
 is:=zK
 hash:=cS9 w
 inj:=fun v a b ha hb=>by
  rcases cS ha with⟨i,t,rfl,rfl⟩ | ⟨x,t,rfl,rfl⟩
  ·rcases cS hb with⟨j,u,rfl,e⟩ | ⟨y,u,rfl,e⟩
   ·injection e with e1 _;rw[e1]
   ·exact nomatch e
  ·rcases cS hb with⟨j,u,rfl,e⟩ | ⟨y,u,rfl,e⟩
   ·exact nomatch e
   ·injection e with e1 _;rw[e1]
 byValue:=fun k v h=>by
  rcases cS h with⟨i,t,rfl,rfl⟩ | ⟨x,t,rfl,rfl⟩<;>rfl
 pyHash:=fun hv h=>by
  rcases cS hv with⟨i,t,rfl,rfl⟩ | ⟨x,t,rfl,rfl⟩
  ·exact wpAny_pyHash_int h
  ·exact wpAny_pyHash_str h
 eqBool:=fun hu hv h=>by
  rcases cS hu with⟨i,t,rfl,rfl⟩ | ⟨x,t,rfl,rfl⟩
  ·rcases cS hv with⟨j,u,rfl,rfl⟩ | ⟨y,u,rfl,rfl⟩
   ·rw[bY9]at h;exact wpAny_eqBool_int h
   ·rw[bZ1]at h;exact SeqAt.EqAt.int_str i t y u _ _ _ _ h
  ·rcases cS hv with⟨j,u,rfl,rfl⟩ | ⟨y,u,rfl,rfl⟩
   ·rw[bZ2]at h;exact SeqAt.EqAt.str_int x t j u _ _ _ _ h
   ·rw[bZ0]at h;exact wpAny_eqBool_str h
 «strs»:=fun k x t v h=>by
  rcases cS h with⟨i,u,rfl,e⟩ | ⟨y,u,rfl,e⟩
  ·exact nomatch e
  ·injection e with e1 _
   subst e1
   cases v<;>rfl
theorem uG(prog:Program)(w:World)(i:Int)(t:Tok):(eV prog w).is (.inl i) (.int i t)=true:=aD1 i t
theorem uH(prog:Program)(w:World)(x:Str)(t:Tok):(eV prog w).is (.inr x) (.str x t)=true:=aD2 x t
inductive V where
 | non | bl (b:Bool) | int (i:Int) | str (x:Str) | byt (b:Array UInt8) | flt (b:UInt64) | ref (a:Addr) | ty (n:String)
 deriving DecidableEq
noncomputable def eR:V->Value->Prop
 | .non,u=>u=Value.none
 | .bl b,u=>u=Value.bool b
 | .int i,u=>∃ t,u=Value.int i t
 | .str x,u=>∃ t,u=Value.str x t
 | .byt b,u=>∃ t,u=Value.bytes b t
 | .flt b,u=>∃ t,u=Value.float b t
 | .ref a,u=>u=Value.ref a
 | .ty n,u=>u=Value.type n
noncomputable abbrev cO:List V->List Value->Prop:=Paired eR
theorem cO.length{xs:List V}{us:List Value}(r:cO xs us):xs.length=us.length:=Paired.length r
theorem cO.get:∀ {xs:List V} {us:List Value} {i:Nat} {x:V},cO xs us->xs[i]? = some x->∃ u,us[i]? = some u/\eR x u
 | _,_,_,_,.nil,e=>by simp at e
 | _,_,0,_,.cons r _,e=>by simp at e;subst e;exact⟨_,rfl,r⟩
 | _,_,i+1,x,.cons _ t,e=>by
   obtain⟨u,h1,h2⟩:=cO.get (i:=i) (x:=x) t (by simpa using e)
   exact⟨u,by simpa using h1,h2⟩
theorem cO.set{x:V}{u:Value}(r:eR x u):∀ {xs:List V} {us:List Value} (i:Nat),cO xs us->cO (xs.set i x) (us.set i u)
 | _,_,_,.nil=>.nil
 | _,_,0,.cons _ t=>.cons r t
 | _,_,i+1,.cons q t=>.cons q (cO.set r i t)
theorem cO.append:∀ {xs ys:List V} {us ws:List Value},cO xs us->cO ys ws->cO (xs++ys) (us++ws)
 | _,_,_,_,.nil,s=>s
 | _,_,_,_,.cons r t,s=>.cons r (cO.append t s)
theorem cO.take:∀ {xs:List V} {us:List Value} (n:Nat),cO xs us->cO (xs.take n) (us.take n)
 | _,_,0,_=>.nil
 | _,_,_+1,.nil=>.nil
 | _,_,n+1,.cons r t=>.cons r (cO.take n t)
theorem cO.drop:∀ {xs:List V} {us:List Value} (n:Nat),cO xs us->cO (xs.drop n) (us.drop n)
 | _,_,0,r=>r
 | _,_,_+1,.nil=>.nil
 | _,_,n+1,.cons _ t=>cO.drop n t
noncomputable def bA7:Option V->Option Value->Prop
 | some v,some u=>eR v u
 | none,none=>True
 | _,_=>False
noncomputable def KV{κ:Type}:List (κ×V)->List (κ×Value)->Prop:=Paired fun(p:κ×V) (q:κ×Value)=>p.1=q.1/\eR p.2 q.2
noncomputable def kV:Key->V
 | .inl i=>.int i
 | .inr x=>.str x
inductive HO where
 | lst (xs:List V)
 | tup (xs:List V)
 | dK (kvs:List (Key×V)) | dT (kvs:List (List Key×V))
 | set (S:Int->Bool) (n:Nat)
 | ins (C dx:Addr) (fs:List (Str×V))
 | own (x:Addr)
 | xd (fs:List (Str×V))
 | met (f x:Addr)
 | rng (lo hi:Int)
 | frz (o:Obj) (u:HO)
 | tbl (ps:Array Value)
 | ext (φ:Heap->Prop)
noncomputable abbrev Hp:=Addr->Option HO
noncomputable def upd(H:Hp)(a:Addr)(o:HO):Hp:=fun b=>if b=a then some o else H b
theorem aT{H:Hp}{a:Addr}{o:HO}:upd H a o a=some o:=by unfold upd;rw[if_pos rfl]
theorem aK{H:Hp}{a b:Addr}{o:HO}(h:b≠a):upd H a o b=H b:=by unfold upd;rw[if_neg h]
theorem bL{H:Hp}{a b:Addr}{o:HO}(h:H a=some o)(h':H b=none):a≠b:=by
 intro e;subst e;rw[h]at h';cases h'
noncomputable def cT0(h:Heap)(a:Addr):Prop:=∃ o,h.get? a=some o/\o.dict=none
section
variable(P:Program)(w:World)
noncomputable def dQ(H:Hp)(h:Heap)(a:Addr):HO->Prop
 | .lst xs=>xs.length<=sizeLine/\∃ (its:List Value) (n:Nat),cO xs its/\h.get? a=some {cls:=.type "list",data:=.seq its.toArray n}
 | .tup xs=>xs.length<=sizeLine/\∃ its:List Value,cO xs its/\IsTup h a its.toArray/\cT0 h a
 | .dK kvs=>kvs.length<=sizeLine/\(a==sysModules)=false/\∃ vs,KV kvs vs/\h.DictOf (eV P w) a vs
 | .dT kvs=>kvs.length<=sizeLine/\(a==sysModules)=false/\∃ xs:List (List Key×Addr×Value),
   Paired (fun(p:List Key×V) (q:List Key×Addr×Value)=>p.1=q.1/\H q.2.1=some (.tup (p.1.map kV))/\eR p.2 q.2.2) kvs xs /\
   ∃ o es ep,h.get? a=some o/\o.ExactDict/\o.data=.dict es ep/\es.toList=xs.map (entryOfKey (tupleKind (eV P w)))/\(xs.map (·.1)).Nodup
 | .set S n=>h.SetOf (intKind P w) a S n
 | .ins C dx fs=>H dx=some (.own a)/\fs.length<=1000/\dx≠a/\h.get? a=some (PySem.W.instObj C dx) /\
   ∃ mA,h.Ns1 dx mA/\(∀ f,bA7 (fs.lookup f) (mA f))/\PySem.Within mA (fs.map (·.1))
 | .own _=>∃ o,h.get? a=some o
 | .xd fs=>∃ mA,h.Ns1 a mA/\∀ f,bA7 (fs.lookup f) (mA f)
 | .rng lo hi=>∃ t u v,h.get? a=some {cls:=.type "range",data:=.fields #[.int lo t,.int hi u,.int 1 v]}
 | .frz o u=>h.get? a=some o/\dQ H h a u
 | .tbl ps=>h.get? a=some {cls:=.none,data:=.fields ps}
 | .met f x=>h.get? a=some (PySem.W.methodObj (.ref f) (.ref x))
 | .ext φ=>φ h/\(∃ o,h.get? a=some o)/\∀ h1 h2:Heap,φ h1->(∀ o,h1.get? a=some o->h2.get? a=some o)->φ h2
noncomputable def HOk(H:Hp)(h:Heap):Prop:=∀ a o,H a=some o->dQ P w H h a o
end
section
variable{P:Program}{w:World}{H H':Hp}{h h':Heap}{a:Addr}{o:HO}
theorem dQ.lt(x:dQ P w H h a o):a < h.objs.size:=by
 cases o with
 | lst xs=>obtain⟨_,_,_,_,e⟩:=x;exact Heap.lt_size e
 | tup xs=>obtain⟨_,_,_,p,_⟩:=x;exact p.lt
 | dK kvs=>obtain⟨_,_,_,_,o,_,_,e,_⟩:=x;exact Heap.lt_size e
 | dT kvs=>obtain⟨_,_,_,_,o,_,_,e,_⟩:=x;exact Heap.lt_size e
 | set S n=>obtain⟨o,_,_,_,e,_⟩:=x;exact Heap.lt_size e
 | ins C dx fs=>obtain⟨_,_,_,e,_⟩:=x;exact Heap.lt_size e
 | own y=>obtain⟨_,e⟩:=x;exact Heap.lt_size e
 | xd fs=>obtain⟨_,⟨_,_,_,e,_⟩,_⟩:=x;exact Heap.lt_size e
 | rng lo hi=>obtain⟨_,_,_,e⟩:=x;exact Heap.lt_size e
 | frz ob u=>obtain⟨e,_⟩:=x;exact Heap.lt_size e
 | tbl ps=>exact Heap.lt_size (show h.get? a=some _ from x)
 | met f y=>exact Heap.lt_size (show h.get? a=some _ from x)
 | ext φ=>obtain⟨_,⟨_,e⟩,_⟩:=x;exact Heap.lt_size e
theorem Paired.mapP{α β:Type}{F G:α->β->Prop}:∀ {l₁:List α} {l₂:List β},Paired F l₁ l₂->(∀ a b,F a b->G a b)->Paired G l₁ l₂
 | _,_,.nil,_=>.nil
 | _,_,.cons r t,f=>.cons (f _ _ r) (Paired.mapP t f)
theorem dQ.stay(x:dQ P w H h a o)(k:∀ b u,(b=a\/H b=some (.own a))->h.get? b=some u->h'.get? b=some u)
  (ho:∀ b,H b=some (.own a)->H' b=some (.own a)) (ht:∀ b xs,H b=some (.tup xs)->H' b=some (.tup xs)):dQ P w H' h' a o:=by
 induction o with
 | lst xs=>obtain⟨z,its,n,r,e⟩:=x;exact⟨z,its,n,r,k _ _ (.inl rfl) e⟩
 | tup xs=>obtain⟨z,its,r,⟨ob,e,c⟩,⟨ob2,e2,c2⟩⟩:=x;exact⟨z,its,r,⟨ob,k _ _ (.inl rfl) e,c⟩,⟨ob2,k _ _ (.inl rfl) e2,c2⟩⟩
 | dK kvs=>obtain⟨z,y,vs,r,ob,es,ep,e,c⟩:=x;exact⟨z,y,vs,r,ob,es,ep,k _ _ (.inl rfl) e,c⟩
 | dT kvs=>
   obtain⟨z,y,xs,r,ob,es,ep,e,c⟩:=x
   exact⟨z,y,xs,Paired.mapP r fun p q z=>⟨z.1,ht _ _ z.2.1,z.2.2⟩,ob,es,ep,k _ _ (.inl rfl) e,c⟩
 | set S n=>obtain⟨ob,es,ep,t,e,c⟩:=x;exact⟨ob,es,ep,t,k _ _ (.inl rfl) e,c⟩
 | ins C dx fs=>
   obtain⟨d,z,ne,e,mA,⟨od,es,ep,e2,c⟩,r⟩:=x
   exact⟨ho _ d,z,ne,k _ _ (.inl rfl) e,mA,⟨od,es,ep,k _ _ (.inr d) e2,c⟩,r⟩
 | own y=>obtain⟨ob,e⟩:=x;exact⟨ob,k _ _ (.inl rfl) e⟩
 | xd fs=>obtain⟨mA,⟨od,es,ep,e,c⟩,r⟩:=x;exact⟨mA,⟨od,es,ep,k _ _ (.inl rfl) e,c⟩,r⟩
 | rng lo hi=>obtain⟨t,u,v,e⟩:=x;exact⟨t,u,v,k _ _ (.inl rfl) e⟩
 | frz ob u ih=>obtain⟨e,q⟩:=x;exact⟨k _ _ (.inl rfl) e,ih q⟩
 | tbl ps=>
   have e:h.get? a=some {cls:=.none,data:=.fields ps}:=x
   show h'.get? a=some {cls:=.none,data:=.fields ps}
   exact k a _ (.inl rfl) e
 | met f y=>
   have e:h.get? a=some (PySem.W.methodObj (.ref f) (.ref y)):=x
   show h'.get? a=some (PySem.W.methodObj (.ref f) (.ref y))
   exact k a _ (.inl rfl) e
 | ext φ=>obtain⟨p,⟨o,e⟩,st⟩:=x;exact⟨st _ _ p fun o q=>k _ _ (.inl rfl) q,⟨o,k _ _ (.inl rfl) e⟩,st⟩
theorem HOk.lt(x:HOk P w H h)(e:H a=some o):a < h.objs.size:=(x a o e).lt
theorem HOk.fresh(x:HOk P w H h)(e:h.objs.size<=a):H a=none:=by
 cases q:H a with
 | none=>rfl
 | some u=>exact absurd (Nat.lt_of_lt_of_le (x.lt q) e) (Nat.lt_irrefl _)
theorem HOk.kept(x:HOk P w H h)(k:∀ b u,h.get? b=some u->h'.get? b=some u):HOk P w H h':=fun a o e=>
 (x a o e).stay (fun b u _ q=>k b u q) (fun _ q=>q) fun _ _ q=>q
theorem HOk.laid(x:HOk P w H h)(k:∀ b u,h.get? b=some u->h'.get? b=some u)(hp:h.objs.size<=a)(new:dQ P w (upd H a o) h' a o):HOk P w (upd H a o) h':=fun b u e=>by
 have hn:=x.fresh hp
 by_cases hb:b=a
 ·subst hb;rw[aT]at e;cases e;exact new
 ·rw[aK hb]at e
  exact(x b u e).stay (fun c v _ q=>k c v q) (fun c q=>by rw[aK (bL q hn)];exact q) fun c xs q=>by rw[aK (bL q hn)];exact q
end
noncomputable def Rd(H:Hp)(a:Addr)(u:HO):Prop:=H a=some u\/∃ o,H a=some (.frz o u)
theorem Rd.ok{P:Program}{w:World}{H:Hp}{h:Heap}{a:Addr}{u:HO}(r:Rd H a u)(x:HOk P w H h):dQ P w H h a u:=by
 rcases r with r | ⟨o,r⟩
 ·exact x a u r
 ·obtain⟨_,q⟩:=x a _ r
  exact q
noncomputable def Mut:Option HO->Prop
 | some (.lst _)=>True
 | some (.dK _)=>True
 | some (.dT _)=>True
 | some (.set _ _)=>True
 | some (.ins _ _ _)=>True
 | some (.ext _)=>True
 | _=>False
section
variable{P:Program}{w:World}{H:Hp}{h h':Heap}{x e:Addr}{o':HO}
theorem HOk.write(ok:HOk P w H h)(mu:Mut (H x))(he:e=x\/H e=some (.own x))(k:∀ b u,b≠e->h.get? b=some u->h'.get? b=some u)(heo:∃ u,h'.get? e=some u)
  (new:dQ P w (upd H x o') h' x o'):HOk P w (upd H x o') h':=fun b u q=>by
 have nown:∀ c y,H c=some (.own y)->c≠x:=fun c y r z=>by subst z;rw[r]at mu;exact mu
 have ntup:∀ c xs,H c=some (.tup xs)->c≠x:=fun c xs r z=>by subst z;rw[r]at mu;exact mu
 by_cases hb:b=x
 ·subst hb;rw[aT]at q;cases q;exact new
 ·rw[aK hb]at q
  by_cases hbe:b=e
  ·have q':H b=some (.own x):=by
    rcases he with z | z
    ·exact absurd (hbe.trans z) hb
    ·rw[hbe];exact z
   rw[q]at q';cases q'
   obtain⟨v,hv⟩:=heo
   exact⟨v,by rw[hbe];exact hv⟩
  ·refine(ok b u q).stay (fun c v hc r=>k c v ?_ r) (fun c r=>by rw[aK (nown c b r)];exact r) fun c xs r=>by rw[aK (ntup c xs r)];exact r
   rcases hc with rfl | hc
   ·exact hbe
   ·rintro rfl
    rcases he with z | z
    ·exact nown c b hc z
    ·rw[hc]at z;cases z;exact hb rfl
end
structure Un(fs ex:List Addr)(H H':Hp)(h h':Heap):Prop where
 keep:∀ b o,h.get? b=some o->H b=none->b∉fs->b∉ex->h'.get? b=some o
 slot:∀ b o,h.get? b=some o->H b=none->b∈fs->b∉ex->∃ sl,h'.get? b=some {o with slots:=sl}
 free:∀ b o,h.get? b=some o->H b=none->b∉ex->H' b=none
 there:∀ b o,h.get? b=some o->b∉ex->∃ o',h'.get? b=some o'
 tups:∀ b xs,H b=some (.tup xs)->H' b=some (.tup xs)
 frzs:∀ b o u,H b=some (.frz o u)->H' b=some (.frz o u)
 tbls:∀ b ps,H b=some (.tbl ps)->∃ more,H' b=some (.tbl (ps++more))
section
variable{fs fs' ex ex':List Addr}{H H1 H2:Hp}{h h1 h2 h':Heap}{a x e:Addr}{o:HO}
theorem Un.any(u:Un fs ex H H1 h h1){b:Addr}{ob:Obj}(q:h.get? b=some ob)(n:H b=none)(hx:b∉ex):∃ sl,h1.get? b=some {ob with slots:=sl}:=by
 by_cases hb:b∈fs
 ·exact u.slot b ob q n hb hx
 ·exact⟨ob.slots,u.keep b ob q n hb hx⟩
theorem Un.kept(k:∀ b u,h.get? b=some u->h'.get? b=some u):Un fs ex H H h h':=
 ⟨fun b ob q _ _ _=>k b ob q,fun b ob q _ _ _=>⟨ob.slots,k b ob q⟩,fun _ _ _ n _=>n,fun b ob q _=>⟨ob,k b ob q⟩,fun _ _ q=>q,fun _ _ _ q=>q,fun _ ps q=>⟨#[],by rw[q];simp⟩⟩
theorem Un.refl:Un fs ex H H h h:=Un.kept fun _ _ q=>q
theorem Un.laid(k:∀ b u,h.get? b=some u->h'.get? b=some u)(hp:h.objs.size<=a)(hn:H a=none):Un fs ex H (upd H a o) h h' where
 keep:=fun b u q _ _ _=>k b u q
 slot:=fun b u q _ _ _=>⟨u.slots,k b u q⟩
 free:=fun b u q n _=>by rw[aK (Nat.ne_of_lt (Nat.lt_of_lt_of_le (Heap.lt_size q) hp))];exact n
 there:=fun b u q _=>⟨u,k b u q⟩
 tups:=fun b xs q=>by rw[aK (bL q hn)];exact q
 frzs:=fun b u xs q=>by rw[aK (bL q hn)];exact q
 tbls:=fun b ps q=>⟨#[],by rw[aK (bL q hn),q];simp⟩
theorem Un.write(mu:Mut (H x))(he:e=x\/H e=some (.own x))(k:∀ b u,b≠e->h.get? b=some u->h'.get? b=some u)(heo:∃ u,h'.get? e=some u):Un fs ex H (upd H x o) h h':=by
 have hx:∀ b,H b=none->b≠x:=fun b n z=>by subst z;rw[n]at mu;exact mu
 have hb:∀ b,H b=none->b≠e:=fun b n z=>by
  subst z
  rcases he with r | r
  ·exact hx b n r
  ·rw[n]at r;cases r
 have hm:∀ b u,H b=some u->¬ Mut (some u)->b≠x:=fun b u q nm z=>by subst z;rw[q]at mu;exact nm mu
 refine⟨fun b u q n _ _=>k b u (hb b n) q,fun b u q n _ _=>⟨u.slots,k b u (hb b n) q⟩,fun b u q n _=>by rw[aK (hx b n)];exact n,fun b u q _=>?_,
  fun b xs q=>by rw[aK (hm b _ q fun z=>z)];exact q,fun b u xs q=>by rw[aK (hm b _ q fun z=>z)];exact q,fun b ps q=>⟨#[],by rw[aK (hm b _ q fun z=>z),q];simp⟩⟩
 by_cases hbe:b=e
 ·subst hbe;exact heo
 ·exact⟨u,k b u hbe q⟩
end
noncomputable def trk(h:Heap)(H:Hp):List Addr:=(List.range h.objs.size).filter fun a=>(H a).isSome
noncomputable def bA8(h:Heap)(H:Hp):Heap:=PySem.W.hideAll h (trk h H)
theorem aD3(h:Heap)(H:Hp):(bA8 h H).objs.size=h.objs.size:=PySem.W.hideAll_size _ _
theorem bA9{h:Heap}{H:Hp}{b:Addr}{o:Obj}(e:h.get? b=some o)(n:H b=none):(bA8 h H).get? b=some o:=
 PySem.W.hideAll_get _ e fun hm=>by
  have q:(H b).isSome=true:=(List.mem_filter.mp hm).2
  rw[n]at q;simp at q
theorem bM3{h:Heap}{H:Hp}{b:Addr}{o:Obj}(e:(bA8 h H).get? b=some o):h.get? b=some o/\H b=none:=by
 have e':h.get? b=some o:=PySem.W.of_hideAll (trk h H) e
 refine⟨e',?_⟩
 cases q:H b with
 | none=>rfl
 | some x=>
   have hm:b∈trk h H:=List.mem_filter.mpr ⟨List.mem_range.mpr (Heap.lt_size e'),by simp[q]⟩
   have z:(bA8 h H).get? b=none:=PySem.W.hideAll_none (trk h H) hm
   rw[z]at e;cases e
noncomputable def bM4(g h:Heap)(L:Addr):List (Addr×Obj):=(List.range h.objs.size).filterMap fun a=>if a=L\/(g.get? a).isSome=true then none else(h.get? a).map fun o=>(a,o)
noncomputable def kD(g h:Heap)(L d:Addr):List (Addr×Obj):=(bM4 g h L).filter fun p=>decide (p.1≠d)
structure Mod(K:PySem.W.Frag)(mg:Str->Option Value)(base:Heap):Prop where
 kin:K.In base
 glob:base.Ns mainGlobals mg
 blt:∃ mb,base.Ns builtinsNs mb/\∀ x:Str,x≠"__name__"->mb x=bootBuiltins x
 nolimit:base.NoLimit
structure Cx where
 prog:Program
 w:World
 K:PySem.W.Frag
 mg:Str->Option Value
 base:Heap
 A:Around
 N:List Str
 s₀:Shared
 H₀:Hp
 env:Env
 outer:List Env
 stack:List Env
 ex:List Addr
 fn:Str->Bool
 calm:Bool
 pn:List (Addr×Obj)
 xe:Value->Shared->Prop
noncomputable def frs(l:List Env):List Addr:=l.filterMap (·.frame)
noncomputable abbrev Cx.fs(X:Cx):List Addr:=frs X.outer
noncomputable def Vis(sc:Scope)(x:Str):Prop:=sc.names.lookup x=some .local\/sc.names.lookup x=some .cell\/sc.names.lookup x=some .free
noncomputable def Loc(sc:Scope)(x:Str):Prop:=sc.names.lookup x=some .local\/sc.names.lookup x=some .cell
noncomputable def cT1(env:Env)(h:Heap)(m:Str->Option Value)(x:Str)(u:Value):Prop:=
 (env.kindOf x=some .local/\m x=some u)\/((env.kindOf x=some .cell\/env.kindOf x=some .free)/\∃ c,env.cells.lookup x=some c/\h.IsCell c (some u))
structure Cx.Ok(X:Cx):Prop where
 mod:Mod X.K X.mg X.base
 kind:X.env.scope.kind=.function
 glob:X.env.globals=mainGlobals
 blt:X.env.builtins=builtinsNs
 above:X.s₀.heap.objs.size<=X.env.locals
 inj:∀ x y c,X.env.cells.lookup x=some c->X.env.cells.lookup y=some c->x=y
 has:∀ x,(X.env.kindOf x=some .cell\/X.env.kindOf x=some .free)->∃ c,X.env.cells.lookup x=some c
 cab:∀ x c,X.fn x=true->X.env.cells.lookup x=some c->X.s₀.heap.objs.size<=c
 hd:X.calm=true->X.A.handled=none
 frames:X.A.frames=some X.stack
 stk:X.stack=X.outer\/(X.stack=X.env::X.outer/\X.env.frame=some X.env.locals)
 exf:∀ b∈X.ex,b≠X.env.locals/\∀ x c,X.env.cells.lookup x=some c->c≠b
 bs:∀ b o,X.base.get? b=some o->X.s₀.heap.get? b=some o/\X.H₀ b=none
 bsz:X.base.objs.size<=X.s₀.heap.objs.size
 noex:∀ b o,X.base.get? b=some o->b∉X.ex
 exfs:∀ b∈X.ex,b∉X.fs
 funs:X.s₀.heap.FunFrames X.base X.outer
 frf:∀ b∈X.fs,X.H₀ b=none
structure Inv(X:Cx)(pins:List (Addr×Obj))(σ:List (Option V))(H:Hp)(s:Shared):Prop where
 ok:X.Ok
 os:s.os=X.s₀.os
 bare:AllBare s.gens
 base:Un X.fs X.ex X.H₀ H X.s₀.heap s.heap
 loc:∃ m,s.heap.Ns X.env.locals m/\∀ (i:Nat) (x:Str) (v:V),X.N[i]? = some x->σ[i]? = some (some v)->Vis X.env.scope x->∃ u,eR v u/\cT1 X.env s.heap m x u
 cell:∀ x c,X.env.cells.lookup x=some c->∃ v,s.heap.IsCell c v
 free:H X.env.locals=none
 freeC:∀ x c,X.env.cells.lookup x=some c->H c=none
 pin:∀ p∈X.pn++pins,s.heap.get? p.1=some p.2/\H p.1=none/\p.1≠X.env.locals/\p.1∉X.fs/\∀ v,p.2.data≠.cell v
 hok:HOk X.prog X.w H s.heap
 len:σ.length=X.N.length
section
variable{X:Cx}{pins:List (Addr×Obj)}{σ:List (Option V)}{H H':Hp}{s:Shared}{h':Heap}
theorem Cx.Ok.nofr(ok:X.Ok){b:Addr}{o:Obj}(e:X.base.get? b=some o):b∉X.fs:=fun hb=>by
 have:=(ok.funs.mem hb).1
 rw[e]at this;cases this
theorem Inv.bs(I:Inv X pins σ H s):∀ b o,X.base.get? b=some o->s.heap.get? b=some o/\H b=none:=fun b o e=>
 ⟨I.base.keep b o (I.ok.bs b o e).1 (I.ok.bs b o e).2 (I.ok.nofr e) (I.ok.noex b o e),I.base.free b o (I.ok.bs b o e).1 (I.ok.bs b o e).2 (I.ok.noex b o e)⟩
theorem Inv.bk(I:Inv X pins σ H s):∀ b o,X.base.get? b=some o->s.heap.get? b=some o:=fun b o e=>(I.bs b o e).1
theorem Inv.mod(I:Inv X pins σ H s):Mod X.K X.mg X.base:=I.ok.mod
theorem Inv.kIn(I:Inv X pins σ H s):X.K.In s.heap:=I.ok.mod.kin.keeps I.bk
theorem Inv.lt(I:Inv X pins σ H s):X.env.locals < s.heap.objs.size:=let ⟨_,hn,_⟩:=I.loc;hn.lt
theorem Inv.sz(I:Inv X pins σ H s):X.s₀.heap.objs.size<=s.heap.objs.size:=Nat.le_trans I.ok.above (Nat.le_of_lt I.lt)
theorem Inv.nofs(I:Inv X pins σ H s){a:Addr}(h:s.heap.objs.size<=a):a∉X.fs:=fun hb=>by
 obtain⟨_,o,ho,_⟩:=I.ok.funs.mem hb
 exact absurd (Nat.lt_of_lt_of_le (Heap.lt_size ho) (Nat.le_trans I.sz h)) (Nat.lt_irrefl _)
theorem Inv.cne(I:Inv X pins σ H s):∀ x c,X.env.cells.lookup x=some c->c≠X.env.locals:=fun x c e z=>by
 obtain⟨v,o,ho,hd⟩:=I.cell x c e
 obtain⟨m,⟨o',es,ep,ho',hd',_⟩,_⟩:=I.loc
 rw[z,ho']at ho;cases ho;rw[hd']at hd;cases hd
theorem Inv.funs(I:Inv X pins σ H s):s.heap.FunFrames X.base X.outer:=by
 have all:∀ (l:List Env),(∀ b∈frs l,b∈X.fs)->X.s₀.heap.FunFrames X.base l->s.heap.FunFrames X.base l:=by
  intro l
  induction l with
  | nil=>intro _ _;trivial
  | cons env r ih=>
    intro hs hl
    obtain⟨hk,⟨L,o,hf,hn,ho,hd⟩,hr⟩:=hl
    have hL:L∈X.fs:=hs L (by unfold frs;rw[List.filterMap_cons,hf];exact List.mem_cons_self)
    obtain⟨sl,e⟩:=I.base.slot L o ho (I.ok.frf L hL) hL fun z=>I.ok.exfs L z hL
    exact⟨hk,⟨L,_,hf,hn,e,hd⟩,ih (fun b hb=>hs b (by unfold frs;rw[List.filterMap_cons,hf];exact List.mem_cons_of_mem _ hb)) hr⟩
 exact all X.outer (fun _ hb=>hb) I.ok.funs
theorem Inv.stack(I:Inv X pins σ H s):s.heap.FunFrames X.base X.stack:=by
 rcases I.ok.stk with e | ⟨e,hf⟩
 ·rw[e];exact I.funs
 ·rw[e]
  obtain⟨m,hn,_⟩:=I.loc
  refine .cons (by rw[I.ok.kind];decide) hf hn ?_ I.funs
  exact Heap.get?_none_of_le (Nat.le_trans I.ok.bsz I.ok.above)
theorem Inv.stkSub(I:Inv X pins σ H s):∀ b∈frs X.stack,b∈X.env.locals::X.fs:=fun b hb=>by
 rcases I.ok.stk with e | ⟨e,hf⟩
 ·rw[e]at hb;exact List.mem_cons_of_mem _ hb
 ·rw[e]at hb
  unfold frs at hb
  rw[List.filterMap_cons,hf]at hb
  exact hb
theorem Inv.stkFree(I:Inv X pins σ H s):∀ b∈frs X.stack,H b=none:=fun b hb=>by
 rcases List.mem_cons.mp (I.stkSub b hb)with e | hb
 ·rw[e];exact I.free
 ·obtain⟨_,o,ho,_⟩:=I.ok.funs.mem hb
  exact I.base.free b o ho (I.ok.frf b hb) fun z=>I.ok.exfs b z hb
theorem Inv.step{g':Array GenState}{t':Nat}{d':Drawn}{ch:List Addr}(I:Inv X pins σ H s)
  (hch:∀ b∈ch,(b∈X.ex\/X.s₀.heap.objs.size<=b)/\b≠X.env.locals/\(∀ x c,X.env.cells.lookup x=some c->c≠b)/\∀ p∈X.pn++pins,p.1≠b)
  (keep:∀ b o,b≠X.env.locals->b∉X.fs->b∉ch->s.heap.get? b=some o->H b=none->h'.get? b=some o)
  (slot:∀ b o,b≠X.env.locals->b∈X.fs->b∉ch->s.heap.get? b=some o->H b=none->∃ sl,h'.get? b=some {o with slots:=sl}) (free:∀ b o,b∉ch->s.heap.get? b=some o->H b=none->H' b=none)
  (there:∀ b o,b∉ch->s.heap.get? b=some o->∃ o',h'.get? b=some o')
  (tups:∀ b xs,H b=some (.tup xs)->H' b=some (.tup xs)) (frzs:∀ b o u,H b=some (.frz o u)->H' b=some (.frz o u)) (tbls:∀ b ps,H b=some (.tbl ps)->∃ more,H' b=some (.tbl (ps++more)))
  (ns:∀ m,s.heap.Ns X.env.locals m->h'.Ns X.env.locals m) (hok:HOk X.prog X.w H' h') (hg:AllBare g') :
  Inv X pins σ H' {s with heap:=h',gens:=g',drawn:=d',toks:=t'}:=by
 have neL:∀ b o,X.s₀.heap.get? b=some o->b≠X.env.locals:=fun b o e=>Nat.ne_of_lt (Nat.lt_of_lt_of_le (Heap.lt_size e) I.ok.above)
 have neC:∀ b o,X.s₀.heap.get? b=some o->b∉X.ex->b∉ch:=fun b o e hx hb=>by
  rcases(hch b hb).1 with z | z
  ·exact hx z
  ·exact absurd (Nat.lt_of_lt_of_le (Heap.lt_size e) z) (Nat.lt_irrefl _)
 have cellK:∀ x c,X.env.cells.lookup x=some c->∀ v,s.heap.IsCell c v->h'.IsCell c v:=fun x c e v ⟨o,ho,hd⟩=>by
  have nch:c∉ch:=fun z=>(hch c z).2.2.1 x c e rfl
  by_cases hc:c∈X.fs
  ·obtain⟨sl,q⟩:=slot c o (I.cne x c e) hc nch ho (I.freeC x c e)
   exact⟨_,q,hd⟩
  ·exact⟨o,keep c o (I.cne x c e) hc nch ho (I.freeC x c e),hd⟩
 refine⟨I.ok,I.os,hg,⟨fun b o e n hb hx=>?_,fun b o e n hb hx=>?_,fun b o e n hx=>?_,fun b o e hx=>?_,fun b xs e=>tups b xs (I.base.tups b xs e),fun b o xs e=>frzs b o xs (I.base.frzs b o xs e),fun b ps e=>?_⟩,?_,fun x c e=>?_,?_,fun x c e=>?_,fun p hp=>?_,hok,I.len⟩
 ·exact keep b o (neL b o e) hb (neC b o e hx) (I.base.keep b o e n hb hx) (I.base.free b o e n hx)
 ·obtain⟨sl,e1⟩:=I.base.slot b o e n hb hx
  obtain⟨sl',e2⟩:=slot b _ (neL b o e) hb (neC b o e hx) e1 (I.base.free b o e n hx)
  exact⟨sl',e2⟩
 ·obtain⟨o',e1⟩:=I.base.there b o e hx
  exact free b o' (neC b o e hx) e1 (I.base.free b o e n hx)
 ·obtain⟨o',e1⟩:=I.base.there b o e hx
  exact there b o' (neC b o e hx) e1
 ·obtain⟨m1,e1⟩:=I.base.tbls b ps e
  obtain⟨m2,e2⟩:=tbls b _ e1
  exact⟨m1++m2,by rw[e2,Array.append_assoc]⟩
 ·obtain⟨m,hn,hl⟩:=I.loc
  refine⟨m,ns m hn,fun i x v e1 e2 e3=>?_⟩
  obtain⟨u,r,l⟩:=hl i x v e1 e2 e3
  refine⟨u,r,?_⟩
  rcases l with l | ⟨k,c,e,z⟩
  ·exact .inl l
  ·exact .inr ⟨k,c,e,cellK x c e _ z⟩
 ·obtain⟨v,z⟩:=I.cell x c e
  exact⟨v,cellK x c e v z⟩
 ·obtain⟨m,⟨o,_,_,ho,_⟩,_⟩:=I.loc
  exact free _ o (fun z=>(hch _ z).2.1 rfl) ho I.free
 ·obtain⟨v,o,ho,hd⟩:=I.cell x c e
  exact free c o (fun z=>(hch c z).2.2.1 x c e rfl) ho (I.freeC x c e)
 ·obtain⟨e,n,ne,nf,d⟩:=I.pin p hp
  have nch:p.1∉ch:=fun z=>(hch p.1 z).2.2.2 p hp rfl
  exact⟨keep p.1 p.2 ne nf nch e n,free p.1 p.2 nch e n,ne,nf,d⟩
theorem Inv.un{t':Nat}(I:Inv X pins σ H s)(u:Un X.fs [] H H' s.heap h')(hok:HOk X.prog X.w H' h'):Inv X pins σ H' {s with heap:=h',toks:=t'}:=by
 obtain⟨m,⟨o,es,ep,ho,r⟩,_⟩:=id I.loc
 obtain⟨sl,hL⟩:=u.any ho I.free (by simp)
 exact I.step (g':=s.gens) (d':=s.drawn) (ch:=[]) (fun _ z=>nomatch z) (fun b o _ hb _ e n=>u.keep b o e n hb (by simp)) (fun b o _ hb _ e n=>u.slot b o e n hb (by simp)) (fun b o _ e n=>u.free b o e n (by simp)) (fun b o _ e=>u.there b o e (by simp)) u.tups u.frzs u.tbls (fun m' hm=>by
  obtain⟨o',es',ep',ho',r'⟩:=hm
  rw[ho]at ho';cases ho'
  exact⟨_,es',ep',hL,r'⟩) hok I.bare
theorem Inv.call{g':Array GenState}{t':Nat}{d':Drawn}{ch:List Addr}(I:Inv X pins σ H s)(u:Un (frs X.stack) ch H H' s.heap h')(hok:HOk X.prog X.w H' h')(hg:AllBare g')
  (hch:∀ b∈ch,(b∈X.ex\/X.s₀.heap.objs.size<=b)/\b≠X.env.locals/\(∀ x c,X.env.cells.lookup x=some c->c≠b)/\∀ p∈X.pn++pins,p.1≠b) :
  Inv X pins σ H' {s with heap:=h',gens:=g',drawn:=d',toks:=t'}:=by
 obtain⟨m,⟨o,es,ep,ho,r⟩,_⟩:=id I.loc
 obtain⟨sl,hL⟩:=u.any ho I.free fun z=>(hch _ z).2.1 rfl
 exact I.step (ch:=ch) hch (fun b o hL hb hc e n=>u.keep b o e n (fun z=>(List.mem_cons.mp (I.stkSub b z)).elim hL hb) hc) (fun b o _ _ hc e n=>u.any e n hc) (fun b o hc e n=>u.free b o e n hc) (fun b o hc e=>u.there b o e hc) u.tups u.frzs u.tbls (fun m' hm=>by
  obtain⟨o',es',ep',ho',r'⟩:=hm
  rw[ho]at ho';cases ho'
  exact⟨_,es',ep',hL,r'⟩) hok hg
theorem Inv.turned{t':Nat}{it:Addr}(I:Inv X pins σ H s)(k:∀ b o,b≠it->s.heap.get? b=some o->h'.get? b=some o)(hn:H it=none)(hL:it≠X.env.locals)
  (h1:it∈X.ex\/X.s₀.heap.objs.size<=it) (h2:∀ x c,X.env.cells.lookup x=some c->c≠it) (h3:∀ p∈X.pn++pins,p.1≠it):Inv X pins σ H {s with heap:=h',toks:=t'}:=by
 have nit:∀ b u,H b=some u->b≠it:=fun b u e z=>by rw[z,hn]at e;cases e
 refine I.step (g':=s.gens) (d':=s.drawn) (ch:=[it]) (fun b hb=>?_) (fun b o _ _ hc e _=>k b o (fun z=>hc (by simp[z])) e) (fun b o _ _ hc e _=>⟨o.slots,k b o (fun z=>hc (by simp[z])) e⟩) (fun _ _ _ _ n=>n)
  (fun b o hc e=>⟨o,k b o (fun z=>hc (by simp[z])) e⟩) (fun _ _ e=>e) (fun _ _ _ e=>e) (fun b ps e=>⟨#[],by rw[e];simp⟩) (fun m hm=>?_) (fun b u e=>?_) I.bare
 ·have e:b=it:=by simpa using hb
  subst e
  exact⟨h1,hL,h2,h3⟩
 ·obtain⟨o,es,ep,ho,r⟩:=hm
  exact⟨o,es,ep,k _ o (Ne.symm hL) ho,r⟩
 ·refine(I.hok b u e).stay (fun c v hc q=>k c v ?_ q) (fun _ q=>q) fun _ _ q=>q
  rcases hc with z | z
  ·rw[z];exact nit b u e
  ·exact nit c _ z
theorem Inv.tok(I:Inv X pins σ H s)(t:Nat):Inv X pins σ H {s with toks:=t}:=I.un (h':=s.heap) (t':=t) Un.refl I.hok
theorem Inv.kept{t':Nat}(I:Inv X pins σ H s)(k:∀ b u,s.heap.get? b=some u->h'.get? b=some u):Inv X pins σ H {s with heap:=h',toks:=t'}:=I.un (Un.kept k) (I.hok.kept k)
theorem Inv.laid{a:Addr}{o:HO}{t':Nat}(I:Inv X pins σ H s)(k:∀ b u,s.heap.get? b=some u->h'.get? b=some u)(hp:s.heap.objs.size<=a)(new:dQ X.prog X.w (upd H a o) h' a o) :
  Inv X pins σ (upd H a o) {s with heap:=h',toks:=t'}:=I.un (Un.laid k hp (I.hok.fresh hp)) (I.hok.laid k hp new)
theorem Inv.write{x e:Addr}{o:HO}{t':Nat}(I:Inv X pins σ H s)(mu:Mut (H x))(he:e=x\/H e=some (.own x))(k:∀ b u,b≠e->s.heap.get? b=some u->h'.get? b=some u)(heo:∃ u,h'.get? e=some u)
  (new:dQ X.prog X.w (upd H x o) h' x o):Inv X pins σ (upd H x o) {s with heap:=h',toks:=t'}:=I.un (Un.write mu he k heo) (I.hok.write mu he k heo new)
theorem Inv.weak{σ':List (Option V)}(I:Inv X pins σ H s)(hl:σ'.length=σ.length)(w:∀ (i:Nat) v,σ'[i]? = some (some v)->σ[i]? = some (some v)):Inv X pins σ' H s:=
 ⟨I.ok,I.os,I.bare,I.base,let ⟨m,hn,hl'⟩:=I.loc;⟨m,hn,fun i x v e1 e2 e3=>hl' i x v e1 (w i v e2) e3⟩,I.cell,I.free,I.freeC,I.pin,I.hok,hl.trans I.len⟩
theorem Inv.pins_of{pins':List (Addr×Obj)}(I:Inv X pins σ H s)(h:∀ p∈pins',s.heap.get? p.1=some p.2/\H p.1=none/\p.1≠X.env.locals/\p.1∉X.fs/\∀ v,p.2.data≠.cell v):Inv X pins' σ H s:=
 ⟨I.ok,I.os,I.bare,I.base,I.loc,I.cell,I.free,I.freeC,fun p hp=>(List.mem_append.mp hp).elim (fun z=>I.pin p (List.mem_append_left _ z)) (h p),I.hok,I.len⟩
theorem xM{N:List Str}(hN:N.Nodup){i j:Nat}{x:Str}(a:N[i]? = some x)(b:N[j]? = some x):i=j:=by
 obtain⟨h1,e1⟩:=List.getElem?_eq_some_iff.mp a
 obtain⟨h2,e2⟩:=List.getElem?_eq_some_iff.mp b
 exact(List.getElem_inj hN).mp (e1.trans e2.symm)
theorem rV{M:Model}{A:Around}{E:Value->Shared->Prop}{i:Nat}{x:Str}{v:V}{u:Value}{Q:Unit->Shared->Prop}(I:Inv X pins σ H s)(hN:X.N.Nodup)(hi:X.N[i]? = some x)(hx:Loc X.env.scope x)(r:eR v u)
  (h:∀ s',Inv X pins (σ.set i (some v)) H s'->(∃ a,Heap.SameBut a s.heap s'.heap/\(a=X.env.locals\/X.env.cells.lookup x=some a))->Q () s') (hf:X.fn x=true\/X.env.scope.names.lookup x=some .local:=by first | exact .inl rfl | exact .inr rfl | assumption):wpAny M A (storeName X.env x u) Q E s:=by
 obtain⟨m,hn,hl⟩:=id I.loc
 have hcls:(X.env.scope.kind==.class||(X.env.scope.kind==.module&&X.env.locals != X.env.globals))=false:=by rw[I.ok.kind];rfl
 have hiσ:i < σ.length:=by rw[I.len];exact(List.getElem?_eq_some_iff.mp hi).1
 have cne:=I.cne
 have tracked:∀ {a:Addr} {h':Heap},(∃ o,s.heap.get? a=some o/\H a=none)->Heap.SameBut a s.heap h'->HOk X.prog X.w H h':=fun{a h'} ha hs b ob e=>by
  obtain⟨_,_,hfree⟩:=ha
  refine(I.hok b ob e).stay (fun c w' hc q=>(hs.2 c ?_).trans q) (fun _ q=>q) fun _ _ q=>q
  rintro rfl
  rcases hc with rfl | hc
  ·rw[hfree]at e;cases e
  ·rw[hfree]at hc;cases hc
 rcases hx with hk | hk
 ·refine wpAny_storeName_local hk hn (fun h' hn' hs=>?_) hcls
  obtain⟨oL,_,_,hoL,_⟩:=id hn
  refine h _ ⟨I.ok,I.os,I.bare,⟨fun b o e n hb hx=>?_,fun b o e n hb hx=>?_,I.base.free,fun b o e hx=>?_,I.base.tups,I.base.frzs,I.base.tbls⟩,⟨_,hn',fun j y v' e1 e2 e3=>?_⟩,fun y c e=>?_,I.free,I.freeC,fun p hp=>?_,tracked ⟨oL,hoL,I.free⟩ hs,by simpa using I.len⟩ ⟨_,hs,.inl rfl⟩
  ·exact(hs.2 b (Nat.ne_of_lt (Nat.lt_of_lt_of_le (Heap.lt_size e) I.ok.above))).trans (I.base.keep b o e n hb hx)
  ·obtain⟨sl,e1⟩:=I.base.slot b o e n hb hx
   exact⟨sl,(hs.2 b (Nat.ne_of_lt (Nat.lt_of_lt_of_le (Heap.lt_size e) I.ok.above))).trans e1⟩
  ·obtain⟨o',e1⟩:=I.base.there b o e hx
   exact⟨o',(hs.2 b (Nat.ne_of_lt (Nat.lt_of_lt_of_le (Heap.lt_size e) I.ok.above))).trans e1⟩
  ·by_cases hj:j=i
   ·subst hj
    rw[hi]at e1;cases e1
    rw[List.getElem?_set_self hiσ]at e2
    cases e2
    exact⟨u,r,.inl ⟨hk,by simp⟩⟩
   ·rw[List.getElem?_set_ne (Ne.symm hj)]at e2
    obtain⟨u',r',q⟩:=hl j y v' e1 e2 e3
    refine⟨u',r',?_⟩
    rcases q with⟨k,e⟩ | ⟨k,c,e,z⟩
    ·refine .inl ⟨k,?_⟩
     have:y≠x:=fun e=>hj (xM hN e1 (e ▸ hi))
     simp[this,e]
    ·exact .inr ⟨k,c,e,z.sameBut hs (cne y c e)⟩
  ·obtain⟨w',z⟩:=I.cell y c e
   exact⟨w',z.sameBut hs (cne y c e)⟩
  ·obtain⟨e,n,ne,nf,d⟩:=I.pin p hp
   exact⟨(hs.2 p.1 ne).trans e,n,ne,nf,d⟩
 ·have hfn:X.fn x=true:=by
   rcases hf with z | z
   ·exact z
   ·rw[z]at hk;cases hk
  obtain⟨c,hc⟩:=I.ok.has x (.inl hk)
  obtain⟨w',z⟩:=I.cell x c hc
  refine wpAny_storeName_cell I.ok.kind hk hc z (fun h' hc' hs=>?_)
  obtain⟨oc,hoc,hocd⟩:=id z
  refine h {s with heap:=h'} ⟨I.ok,I.os,I.bare,⟨fun b o e n hb hx=>?_,fun b o e n hb hx=>?_,I.base.free,fun b o e hx=>?_,I.base.tups,I.base.frzs,I.base.tbls⟩,⟨m,hn.sameBut hs (Ne.symm (cne x c hc)),fun j y v' e1 e2 e3=>?_⟩,fun y c' e=>?_,I.free,I.freeC,fun p hp=>?_,tracked ⟨oc,hoc,I.freeC x c hc⟩ hs,by simpa using I.len⟩ ⟨c,hs,.inr hc⟩
  ·exact(hs.2 b (Nat.ne_of_lt (Nat.lt_of_lt_of_le (Heap.lt_size e) (I.ok.cab x c hfn hc)))).trans (I.base.keep b o e n hb hx)
  ·obtain⟨sl,e1⟩:=I.base.slot b o e n hb hx
   exact⟨sl,(hs.2 b (Nat.ne_of_lt (Nat.lt_of_lt_of_le (Heap.lt_size e) (I.ok.cab x c hfn hc)))).trans e1⟩
  ·obtain⟨o',e1⟩:=I.base.there b o e hx
   exact⟨o',(hs.2 b (Nat.ne_of_lt (Nat.lt_of_lt_of_le (Heap.lt_size e) (I.ok.cab x c hfn hc)))).trans e1⟩
  ·by_cases hj:j=i
   ·subst hj
    rw[hi]at e1;cases e1
    rw[List.getElem?_set_self hiσ]at e2
    cases e2
    exact⟨u,r,.inr ⟨.inl hk,c,hc,hc'⟩⟩
   ·rw[List.getElem?_set_ne (Ne.symm hj)]at e2
    obtain⟨u',r',q⟩:=hl j y v' e1 e2 e3
    refine⟨u',r',?_⟩
    rcases q with q | ⟨k,c',e,z'⟩
    ·exact .inl q
    ·refine .inr ⟨k,c',e,z'.sameBut hs ?_⟩
     rintro rfl
     exact hj (xM hN e1 (I.ok.inj _ _ _ e hc ▸ hi))
  ·by_cases hcc:c'=c
   ·subst hcc;exact⟨_,hc'⟩
   ·obtain⟨w2,z2⟩:=I.cell y c' e
    exact⟨w2,z2.sameBut hs hcc⟩
  ·obtain⟨e,n,ne,nf,d⟩:=I.pin p hp
   refine⟨(hs.2 p.1 ?_).trans e,n,ne,nf,d⟩
   intro q
   rw[q,hoc]at e
   have q':oc=p.2:=Option.some.inj e
   exact d w' (by rw[← q'];exact hocd)
theorem mT{M:Model}{A:Around}{E:Value->Shared->Prop}{i:Nat}{x:Str}{v:V}{u:Value}{Q:Unit->Shared->Prop}(I:Inv X pins σ H s)(hN:X.N.Nodup)(hi:X.N[i]? = some x)(hx:Loc X.env.scope x)(r:eR v u)
  (h:∀ s',Inv X pins (σ.set i (some v)) H s'->Q () s') (hf:X.fn x=true\/X.env.scope.names.lookup x=some .local:=by first | exact .inl rfl | exact .inr rfl | assumption):wpAny M A (storeName X.env x u) Q E s:=
 rV I hN hi hx r (fun s' I' _=>h s' I') hf
theorem Inv.call'{s':Shared}{ch:List Addr}(I:Inv X pins σ H s)(ho:s'.os=s.os)(u:Un (frs X.stack) ch H H' s.heap s'.heap)(hok:HOk X.prog X.w H' s'.heap)(hg:AllBare s'.gens)
  (hch:∀ b∈ch,(b∈X.ex\/X.s₀.heap.objs.size<=b)/\b≠X.env.locals/\(∀ x c,X.env.cells.lookup x=some c->c≠b)/\∀ p∈X.pn++pins,p.1≠b):Inv X pins σ H' s':=by
 obtain⟨h',g',d',t',o'⟩:=s'
 have e:o'=s.os:=ho
 subst e
 exact I.call (g':=g') (t':=t') (d':=d') u hok hg hch
end
noncomputable abbrev XK:=Value->Option Addr->Hp->Prop
noncomputable abbrev St:=List (Option V)
noncomputable abbrev VK:=V->Hp->Prop
noncomputable abbrev TE:=St->Hp->VK->Prop
noncomputable abbrev TT:=St->Hp->(Bool->Hp->Prop)->Prop
noncomputable abbrev TA:=St->Hp->(List V->Hp->Prop)->Prop
structure Ends where
 nx:St->Hp->Prop
 rt:VK
 bk:St->Hp->Prop:=fun _ _=>False
 ct:St->Hp->Prop:=fun _ _=>False
noncomputable abbrev TS:=Ends->St->Hp->Prop
noncomputable def EP(X:Cx)(pins:List (Addr×Obj))(σ:St)(Q:VK)(u:Value)(s':Shared):Prop:=∃ v H',Inv X pins σ H' s'/\eR v u/\Q v H'
noncomputable def TP(X:Cx)(pins:List (Addr×Obj))(σ:St)(Q:Bool->Hp->Prop)(b:Bool)(s':Shared):Prop:=∃ H',Inv X pins σ H' s'/\Q b H'
noncomputable def AP(X:Cx)(pins:List (Addr×Obj))(σ:St)(Q:List V->Hp->Prop)(us:List Value)(s':Shared):Prop:=∃ vs H',Inv X pins σ H' s'/\cO vs us/\Q vs H'
noncomputable def SP(X:Cx)(pins:List (Addr×Obj))(D:Ends)(f:Flow)(s':Shared):Prop:=
 match f with
 | .next=>∃ σ' H',Inv X pins σ' H' s'/\D.nx σ' H'
 | .brk=>∃ σ' H',Inv X pins σ' H' s'/\D.bk σ' H'
 | .cont=>∃ σ' H',Inv X pins σ' H' s'/\D.ct σ' H'
 | .ret u=>∃ v σ' H',Inv X pins σ' H' s'/\eR v u/\D.rt v H'
noncomputable def PE(X:Cx)(e:Expr)(t:TE):Prop:=
 ∀ (pins:List (Addr×Obj)) (s:Shared) (σ:St) (H:Hp) (Q:VK),Inv X pins σ H s->t σ H Q->wpAny (model X.prog X.w) X.A (eval e X.env) (EP X pins σ Q) X.xe s
noncomputable def PT(X:Cx)(e:Expr)(t:TT):Prop:=
 ∀ (pins:List (Addr×Obj)) (s:Shared) (σ:St) (H:Hp) (Q:Bool->Hp->Prop),Inv X pins σ H s->t σ H Q->wpAny (model X.prog X.w) X.A (isTrue e X.env (eval e X.env)) (TP X pins σ Q) X.xe s
noncomputable def PW(X:Cx)(e:Expr)(t:TT):Prop:=
 ∀ (whole:Sem Value) (pins:List (Addr×Obj)) (s:Shared) (σ:St) (H:Hp) (Q:Bool->Hp->Prop),Inv X pins σ H s->t σ H Q->wpAny (model X.prog X.w) X.A (isTrue e X.env whole) (TP X pins σ Q) X.xe s
theorem PW.pt{X:Cx}{e:Expr}{t:TT}(h:PW X e t):PT X e t:=h _
noncomputable def PA(X:Cx)(es:List Expr)(t:TA):Prop:=
 ∀ (pos:Pos) (pins:List (Addr×Obj)) (s:Shared) (σ:St) (H:Hp) (Q:List V->Hp->Prop),Inv X pins σ H s->t σ H Q->wpAny (model X.prog X.w) X.A (spliced (backTo pos (starEach es X.env))) (AP X pins σ Q) X.xe s
noncomputable def PS(X:Cx)(st:Stmt)(t:TS):Prop:=
 ∀ (pins:List (Addr×Obj)) (s:Shared) (σ:St) (H:Hp) (D:Ends),Inv X pins σ H s->t D σ H->wpAny (model X.prog X.w) X.A (exec st X.env) (SP X pins D) X.xe s
noncomputable def PSs(X:Cx)(st:List Stmt)(t:TS):Prop:=
 ∀ (pins:List (Addr×Obj)) (s:Shared) (σ:St) (H:Hp) (D:Ends),Inv X pins σ H s->t D σ H->wpAny (model X.prog X.w) X.A (execs st X.env) (SP X pins D) X.xe s
theorem thn{α:Type}{t:Sem α}{Q Q':α->Shared->Prop}{M:Model}{A:Around}{E:Value->Shared->Prop}{s:Shared}(h:wpAny M A t Q E s)(hQ:∀ a s,Q a s->Q' a s):wpAny M A t Q' E s:=wpAny_mono h hQ fun _ _ x=>x
section
variable{X:Cx}
noncomputable def aC7(i:Nat):TE:=fun σ H Q=>∃ v,σ[i]? = some (some v)/\Q v H
noncomputable def tC(v:V):TE:=fun _ H Q=>Q v H
theorem bZ3{i:Nat}{x:Str}{pos:Pos}(hN:X.N[i]? = some x)(hv:Vis X.env.scope x)(hd:(x==("__debug__":Str))=false:=by decide)(hcd:(x==("__classdict__":Str))=false:=by decide):PE X (.Name x pos) (aC7 i):=by
 intro pins s σ H Q I h
 obtain⟨v,e,h⟩:=h
 obtain⟨m,hn,hl⟩:=I.loc
 obtain⟨u,r,l⟩:=hl i x v hN e hv
 have fin:EP X pins σ Q u s:=⟨v,H,I,r,h⟩
 rcases l with⟨hk,hm⟩ | ⟨hk,c,hc,hcell⟩
 ·exact wpAny_Name (wpAny_loadName_local I.ok.kind hk hn hm fin) hd
 ·rcases hk with hk | hk
  ·exact wpAny_Name (wpAny_loadName_cell I.ok.kind hk hc hcell fin) hd
  ·exact wpAny_Name (wpAny_loadName_free I.ok.kind hk hc hcell fin hcd) hd
theorem eU{i j pos}:PE X (.Constant (.int i) j pos) (tC (.int i)):=fun _ _ _ H _ I h=>wpAny_Constant_int ⟨.int i,H,I.tok _,⟨_,rfl⟩,h⟩
theorem cM8{b j pos}:PE X (.Constant (.bool b) j pos) (tC (.bl b)):=fun _ _ _ H _ I h=>Constant_bool ⟨.bl b,H,I,rfl,h⟩
theorem bZ4{j pos}:PE X (.Constant .none j pos) (tC .non):=fun _ _ _ H _ I h=>Constant_none ⟨.non,H,I,rfl,h⟩
theorem bH3{x j pos}:PE X (.Constant (.str x) j pos) (tC (.str x)):=fun _ _ _ H _ I h=>Calls.Constant_str ⟨.str x,H,I.tok _,⟨_,rfl⟩,h⟩
noncomputable def Gl(X:Cx)(x:Str):Prop:=X.env.kindOf x=some .globalImplicit
theorem bM5{E:Value->Shared->Prop}{pins:List (Addr×Obj)}{s:Shared}{σ:St}{H:Hp}{x:Str}{u:Value}{pos:Pos}{Q:Value->Shared->Prop}(I:Inv X pins σ H s)(hg:Gl X x)(hm:X.mg x=some u)(h:Q u s)
  (hd:(x==("__debug__":Str))=false:=by decide):wpAny (model X.prog X.w) X.A (eval (.Name x pos) X.env) Q E s:=
 Calls.Name_function_global I.ok.kind hg (Calls.loadGlobal_global (by rw[I.ok.glob];exact I.mod.glob.keeps I.bk) hm h) hd
theorem lW{E:Value->Shared->Prop}{pins:List (Addr×Obj)}{s:Shared}{σ:St}{H:Hp}{x:Str}{u:Value}{pos:Pos}{Q:Value->Shared->Prop}(I:Inv X pins σ H s)(hg:Gl X x)(hm:X.mg x=none)(hv:bootBuiltins x=some u)(h:Q u s)
  (hn:x≠"__name__":=by decide) (hd:(x==("__debug__":Str))=false:=by decide):wpAny (model X.prog X.w) X.A (eval (.Name x pos) X.env) Q E s:=by
 obtain⟨mb,h1,h2⟩:=I.mod.blt
 exact Calls.Name_function_global I.ok.kind hg (Calls.loadGlobal_builtin (by rw[I.ok.glob];exact I.mod.glob.keeps I.bk) hm (by rw[I.ok.blt];exact h1.keeps I.bk) ((h2 x hn).trans hv) h) hd
theorem bM6{x:Str}{v:V}{u:Value}{pos:Pos}(hg:Gl X x)(hm:X.mg x=none)(hv:bootBuiltins x=some u)(r:eR v u)(hn:x≠"__name__":=by decide)(hd:(x==("__debug__":Str))=false:=by decide):PE X (.Name x pos) (tC v):=
 fun _ _ _ H _ I h=>lW I hg hm hv ⟨v,H,I,r,h⟩ hn hd
variable{a b:Expr}{ta tb:TE}{pos:Pos}
noncomputable def tB(t:TE):TT:=fun σ H Q=>t σ H fun x H1=>∃ c,x=.bl c/\Q c H1
theorem bZ5{e:Expr}{t:TE}(h:PE X e t)(he:∀ whole,isTrue e X.env whole=(do let v ← whole;standAt e.pos;holding [v] (truthy v)):=by intro _;rfl):PT X e (tB t):=by
 intro pins s σ H Q I hw
 refine isTrue_plain (thn (h pins s σ H _ I hw) fun v s1 ⟨x,H1,I1,r1,q1⟩=>?_) (he _)
 obtain⟨d,rfl,q⟩:=q1
 cases r1
 exact wpAny_truthy_bool ⟨H1,I1,q⟩
variable{tA tB':TT}{kD:List Expr}
noncomputable def cR0(t u:TT):TT:=fun σ H Q=>t σ H fun c H1=>if c=true then u σ H1 Q else Q false H1
noncomputable def tOr(t u:TT):TT:=fun σ H Q=>t σ H fun c H1=>if c=true then Q true H1 else u σ H1 Q
noncomputable def cR1(t:TT):TT:=fun σ H Q=>t σ H fun c H1=>Q (!c) H1
theorem uI(ha:PT X a tA):PW X (.BoolOp .And [a] pos) tA:=by
 intro wh pins s σ H Q I h
 refine isTrue_and (thn (ha pins s σ H Q I h) fun c s1 e=>?_)
 cases c with
 | true=>exact isTrue_and_nil e
 | false=>exact e
theorem bZ6(ha:PT X a tA):PW X (.BoolOp .Or [a] pos) tA:=by
 intro wh pins s σ H Q I h
 refine isTrue_or (thn (ha pins s σ H Q I h) fun c s1 e=>?_)
 cases c with
 | false=>exact isTrue_or_nil e
 | true=>exact e
theorem xN(ha:PT X a tA)(hb:PW X (.BoolOp .And (b::kD) pos) tB'):PW X (.BoolOp .And (a::b::kD) pos) (cR0 tA tB'):=by
 intro wh pins s σ H Q I h
 refine isTrue_and (thn (ha pins s σ H _ I h) fun c s1 ⟨H1,I1,q1⟩=>?_)
 cases c with
 | true=>exact hb wh pins s1 σ H1 Q I1 q1
 | false=>exact⟨H1,I1,q1⟩
theorem cM9(ha:PT X a tA)(hb:PW X (.BoolOp .Or (b::kD) pos) tB'):PW X (.BoolOp .Or (a::b::kD) pos) (tOr tA tB'):=by
 intro wh pins s σ H Q I h
 refine isTrue_or (thn (ha pins s σ H _ I h) fun c s1 ⟨H1,I1,q1⟩=>?_)
 cases c with
 | true=>exact⟨H1,I1,q1⟩
 | false=>exact hb wh pins s1 σ H1 Q I1 q1
theorem bZ7(ha:PT X a tA):PT X (.UnaryOp .Not a pos) (cR1 tA):=by
 intro pins s σ H Q I h
 exact isTrue_not (ha pins s σ H (fun c H1=>Q (!c) H1) I h)
noncomputable def bZ8(ta tb:TE):TE:=fun σ H Q=>ta σ H fun x H1=>∃ c,x=.bl c/\if c=true then tb σ H1 Q else Q (.bl false) H1
noncomputable def cT2(ta tb:TE):TE:=fun σ H Q=>ta σ H fun x H1=>∃ c,x=.bl c/\if c=true then Q (.bl true) H1 else tb σ H1 Q
noncomputable def cN0(ta:TE):TE:=fun σ H Q=>ta σ H fun x H1=>∃ c,x=.bl c/\Q (.bl (!c)) H1
theorem bZ9{op}{t:TE}(h:PE X a t):PE X (.BoolOp op [a] pos) t:=fun pins s σ H Q I hw=>BoolOp_one (h pins s σ H Q I hw)
theorem cA0(ha:PE X a ta)(hb:PE X (.BoolOp .And (b::kD) pos) tb):PE X (.BoolOp .And (a::b::kD) pos) (bZ8 ta tb):=by
 intro pins s σ H Q I h
 refine BoolOp_and (thn (ha pins s σ H _ I h) fun v s1 ⟨x,H1,I1,r1,q1⟩=>?_)
 obtain⟨c,rfl,q1⟩:=q1
 cases r1
 refine wpAny_truthy_bool ?_
 cases c with
 | true=>exact hb pins s1 σ H1 Q I1 q1
 | false=>exact⟨.bl false,H1,I1,rfl,q1⟩
noncomputable def tIf(t:TT)(ta tb:TE):TE:=fun σ H Q=>t σ H fun c H1=>if c=true then ta σ H1 Q else tb σ H1 Q
end
noncomputable def SqL(K:PySem.W.Frag)(H:Hp)(a:Addr)(xs:List V):Prop:=
 Rd H a (.lst xs) \/
  ∃ (o:Obj) (its:Array Value) (n:Nat),K.lookup a=some o/\o.cls=.type "list"/\o.dict=none/\o.data=.seq its n/\its.size<=sizeLine/\cO xs its.toList
noncomputable def SqT(K:PySem.W.Frag)(H:Hp)(a:Addr)(xs:List V):Prop:=
 Rd H a (.tup xs) \/
  ∃ (o:Obj) (its:Array Value) (n:Nat),K.lookup a=some o/\o.cls=.type "tuple"/\o.data=.seq its n/\its.size<=sizeLine/\cO xs its.toList
noncomputable def cT3:Value->Option V
 | .none=>some .non
 | .bool b=>some (.bl b)
 | .int i _=>some (.int i)
 | .str x _=>some (.str x)
 | .bytes b _=>some (.byt b)
 | .float b _=>some (.flt b)
 | .ref a=>some (.ref a)
 | .type n=>some (.ty n)
 | _=>none
theorem eR.abs{x:V}{u:Value}(r:eR x u):cT3 u=some x:=by
 cases x with
 | non=>cases r;rfl
 | bl _=>cases r;rfl
 | int _=>obtain⟨t,rfl⟩:=r;rfl
 | str _=>obtain⟨t,rfl⟩:=r;rfl
 | byt _=>obtain⟨t,rfl⟩:=r;rfl
 | flt _=>obtain⟨t,rfl⟩:=r;rfl
 | ref _=>cases r;rfl
 | ty _=>cases r;rfl
theorem eR.inj{x y:V}{u:Value}(r:eR x u)(q:eR y u):x=y:=Option.some.inj (r.abs.symm.trans q.abs)
theorem cO.inj:∀ {xs ys:List V} {us:List Value},cO xs us->cO ys us->xs=ys
 | _,_,_,.nil,.nil=>rfl
 | _,_,_,.cons r t,.cons r' t'=>by rw[r.inj r',cO.inj t t']
section
variable{X:Cx}{pins:List (Addr×Obj)}{σ:St}{H:Hp}{s:Shared}{a:Addr}{xs ys:List V}
theorem SqL.of{K:PySem.W.Frag}(h:H a=some (.lst xs)):SqL K H a xs:=.inl (.inl h)
theorem SqT.of{K:PySem.W.Frag}(h:H a=some (.tup xs)):SqT K H a xs:=.inl (.inl h)
theorem Inv.list(I:Inv X pins σ H s)(h:SqL X.K H a xs):∃ its:List Value,cO xs its/\PlainL s.heap a its.toArray/\xs.length<=sizeLine:=by
 rcases h with h | ⟨o,its,n,hk,hc,hd,hs,hz,r⟩
 ·obtain⟨z,its,n,r,e⟩:=h.ok I.hok
  exact⟨its,r,⟨_,n,e,rfl,rfl,rfl⟩,z⟩
 ·refine⟨its.toList,r,⟨o,n,I.kIn a o hk,hc,hd,by simpa using hs⟩,?_⟩
  have e:=r.length
  simp only[Array.length_toList]at e
  omega
theorem Inv.tuple(I:Inv X pins σ H s)(h:SqT X.K H a xs):∃ its:List Value,cO xs its/\IsTup s.heap a its.toArray/\xs.length<=sizeLine:=by
 rcases h with h | ⟨o,its,n,hk,hc,hs,hz,r⟩
 ·obtain⟨z,its,r,p,_⟩:=h.ok I.hok
  exact⟨its,r,p,z⟩
 ·refine⟨its.toList,r,⟨o,I.kIn a o hk,hc,n,by simpa using hs⟩,?_⟩
  have e:=r.length
  simp only[Array.length_toList]at e
  omega
theorem Inv.list_inj(I:Inv X pins σ H s)(h:SqL X.K H a xs)(h':SqL X.K H a ys):xs=ys:=by
 obtain⟨its,r,⟨o,n,e,_,_,d⟩,_⟩:=I.list h
 obtain⟨its',r',⟨o',n',e',_,_,d'⟩,_⟩:=I.list h'
 rw[e]at e';cases e'
 rw[d]at d'
 injection d' with d1 _
 have:its=its':=by simpa using congrArg Array.toList d1
 subst this
 exact r.inj r'
theorem Inv.tuple_inj(I:Inv X pins σ H s)(h:SqT X.K H a xs)(h':SqT X.K H a ys):xs=ys:=by
 obtain⟨its,r,⟨o,e,_,n,d⟩,_⟩:=I.tuple h
 obtain⟨its',r',⟨o',e',_,n',d'⟩,_⟩:=I.tuple h'
 rw[e]at e';cases e'
 rw[d]at d'
 injection d' with d1 _
 have:its=its':=by simpa using congrArg Array.toList d1
 subst this
 exact r.inj r'
end
noncomputable abbrev Cx.wish(X:Cx)(E:Value->Shared->Prop):Cx:={X with xe:=E}
noncomputable abbrev Cx.nox(X:Cx):Cx:=X.wish fun _ _=>False
theorem Cx.Ok.wish{X:Cx}(ok:X.Ok)(E:Value->Shared->Prop):(X.wish E).Ok:=
 ⟨ok.mod,ok.kind,ok.glob,ok.blt,ok.above,ok.inj,ok.has,ok.cab,ok.hd,ok.frames,ok.stk,ok.exf,ok.bs,ok.bsz,ok.noex,ok.exfs,ok.funs,ok.frf⟩
theorem Cx.Ok.unwish{X:Cx}{E:Value->Shared->Prop}(ok:(X.wish E).Ok):X.Ok:=
 ⟨ok.mod,ok.kind,ok.glob,ok.blt,ok.above,ok.inj,ok.has,ok.cab,ok.hd,ok.frames,ok.stk,ok.exf,ok.bs,ok.bsz,ok.noex,ok.exfs,ok.funs,ok.frf⟩
section
variable{X:Cx}{pins:List (Addr×Obj)}{σ:St}{H:Hp}{s:Shared}{E:Value->Shared->Prop}
theorem Inv.wish(I:Inv X pins σ H s)(E:Value->Shared->Prop):Inv (X.wish E) pins σ H s:=⟨I.ok.wish E,I.os,I.bare,I.base,I.loc,I.cell,I.free,I.freeC,I.pin,I.hok,I.len⟩
theorem Inv.unwish(I:Inv (X.wish E) pins σ H s):Inv X pins σ H s:=⟨I.ok.unwish,I.os,I.bare,I.base,I.loc,I.cell,I.free,I.freeC,I.pin,I.hok,I.len⟩
theorem SP.unwish{D:Ends}{f:Flow}{s':Shared}(h:SP (X.wish E) pins D f s'):SP X pins D f s':=by
 cases f with
 | next=>obtain⟨σ',H',I,q⟩:=h;exact⟨σ',H',I.unwish,q⟩
 | brk=>obtain⟨σ',H',I,q⟩:=h;exact⟨σ',H',I.unwish,q⟩
 | cont=>obtain⟨σ',H',I,q⟩:=h;exact⟨σ',H',I.unwish,q⟩
 | ret u=>obtain⟨v,σ',H',I,r,q⟩:=h;exact⟨v,σ',H',I.unwish,r,q⟩
theorem PSs.nox{st:List Stmt}{t:TS}(h:PSs X.nox st t):PSs X st t:=fun pins s σ H D I hw=>
 wpAny_mono (h pins s σ H D (I.wish _) hw) (fun _ _ q=>q.unwish) fun _ _ z=>False.elim z
end
section
variable{X:Cx}{st:Stmt}{kD:List Stmt}{t u:TS}{e:Expr}{te:TE}{pos:Pos}
noncomputable def cA1:TS:=fun D σ H=>D.nx σ H
noncomputable def cL2(t u:TS):TS:=fun D σ H=>t {D with nx:=u D} σ H
theorem nB:PSs X [] cA1:=fun _ _ σ H _ I h=>wpAny_execs_nil ⟨σ,H,I,h⟩
theorem fR(h1:PS X st t)(h2:PSs X kD u):PSs X (st::kD) (cL2 t u):=by
 intro pins s σ H D I h
 refine wpAny_execs_cons (thn (h1 pins s σ H {D with nx:=u D} I h) fun f s1 q=>?_)
 cases f with
 | next=>
   obtain⟨σ',H',I',q⟩:=q
   exact h2 pins s1 σ' H' D I' q
 | ret v=>exact q
 | brk=>exact q
 | cont=>exact q
theorem iS(h1:PS X st t):PSs X [st] t:=by
 intro pins s σ H D I h
 refine wpAny_execs_cons (thn (h1 pins s σ H D I h) fun f s1 q=>?_)
 cases f with
 | next=>exact wpAny_execs_nil q
 | ret v=>exact q
 | brk=>exact q
 | cont=>exact q
theorem Inv.quiet{pins:List (Addr×Obj)}{σ:St}{H:Hp}{s:Shared}(I:Inv X pins σ H s):interactive X.env=false:=by simp[interactive,I.ok.kind]
noncomputable def cA2(te:TE):TS:=fun D σ H=>te σ H fun _ H1=>D.nx σ H1
theorem qI(he:PE X e te)(hs:swapsWith e none pos.line X.env=pure false:=by rfl):PS X (.Expr e pos) (cA2 te):=by
 intro pins s σ H D I h
 exact wpAny_Expr_any (thn (he pins s σ H _ I h) fun v s1 ⟨x,H1,I1,r1,q1⟩=>⟨σ,H1,I1,q1⟩) I.quiet hs
noncomputable def cR2(te:TE):TS:=fun D σ H=>te σ H D.rt
theorem bH4(he:PE X e te):PS X (.Return (some e) pos) (cR2 te):=by
 intro pins s σ H D I h
 exact wpAny_Return_some (thn (he pins s σ H _ I h) fun v s1 ⟨x,H1,I1,r1,q1⟩=>⟨x,σ,H1,I1,r1,q1⟩)
noncomputable def cN1:TS:=fun D _ H=>D.rt .non H
noncomputable def cR3(c:TT)(t u:TS):TS:=fun D σ H=>c σ H fun b H1=>if b=true then t D σ H1 else u D σ H1
theorem zL{c:Expr}{a b:List Stmt}{tc:TT}(hc:PT X c tc)(ha:PSs X a t)(hb:PSs X b u):PS X (.If c a b pos) (cR3 tc t u):=by
 intro pins s σ H D I h
 refine wpAny_If (thn (hc pins s σ H _ I h) fun d s1 ⟨H1,I1,q1⟩=>?_)
 cases d with
 | true=>exact ha pins s1 σ H1 D I1 q1
 | false=>exact hb pins s1 σ H1 D I1 q1
end
noncomputable abbrev TG:=V->St->Hp->(St->Hp->Prop)->Prop
noncomputable abbrev TGs:=List V->St->Hp->(St->Hp->Prop)->Prop
noncomputable def PG(X:Cx)(target:Expr)(t:TG):Prop:=
 ∀ (pins:List (Addr×Obj)) (s:Shared) (σ:St) (H:Hp) (v:V) (u:Value) (Q:St->Hp->Prop),Inv X pins σ H s->eR v u->t v σ H Q ->
   wpAny (model X.prog X.w) X.A (assign target X.env u) (fun _ s'=>∃ σ' H',Inv X pins σ' H' s'/\Q σ' H') X.xe s
noncomputable def PGs(X:Cx)(ts:List Expr)(t:TGs):Prop:=
 ∀ (pins:List (Addr×Obj)) (s:Shared) (σ:St) (H:Hp) (vs:List V) (us:List Value) (Q:St->Hp->Prop),Inv X pins σ H s->cO vs us->t vs σ H Q ->
   wpAny (model X.prog X.w) X.A (assignInOrder ((assignEach ts X.env).map (·.2)) us) (fun _ s'=>∃ σ' H',Inv X pins σ' H' s'/\Q σ' H') X.xe s
noncomputable abbrev cL3:=V->V->V->Hp->(Hp->Prop)->Prop
noncomputable def cR4(X:Cx)(t:cL3):Prop:=
 ∀ (pins:List (Addr×Obj)) (s:Shared) (σ:St) (H:Hp) (o i v:V) (ov iv u:Value) (Q:Hp->Prop),Inv X pins σ H s->eR o ov->eR i iv->eR v u->t o i v H Q ->
   wpAny (model X.prog X.w) X.A (setItem ov iv u) (fun _ s'=>∃ H',Inv X pins σ H' s'/\Q H') X.xe s
section
variable{X:Cx}{pos:Pos}
noncomputable def qJ(i:Nat):TG:=fun v σ H Q=>Q (σ.set i (some v)) H
theorem aR{i:Nat}{x:Str}(hN:X.N.Nodup)(hi:X.N[i]? = some x)(hx:Loc X.env.scope x)(hf:X.fn x=true\/X.env.scope.names.lookup x=some .local:=by first | exact .inl rfl | exact .inr rfl | assumption):PG X (.Name x pos) (qJ i):=by
 intro pins s σ H v u Q I r h
 exact wpAny_assign_Name (mT I hN hi hx r (fun s' I'=>⟨_,H,I',h⟩) hf)
noncomputable def cL4:TGs:=fun vs σ H Q=>vs=[]/\Q σ H
noncomputable def aD4(t:TG)(u:TGs):TGs:=fun vs σ H Q=>∃ v r,vs=v::r/\t v σ H fun σ' H'=>u r σ' H' Q
theorem eE:PGs X [] cL4:=by
 intro pins s σ H vs us Q I r h
 obtain⟨e,h⟩:=h
 subst e
 cases r
 exact assignInOrder_nil ⟨σ,H,I,h⟩
theorem bE{e:Expr}{es:List Expr}{t:TG}{u:TGs}(h1:PG X e t)(h2:PGs X es u)
  (hs:(assignEach (e::es) X.env).map (·.2)=assign e X.env::(assignEach es X.env).map (·.2):=by rfl):PGs X (e::es) (aD4 t u):=by
 intro pins s σ H vs us Q I r h
 obtain⟨v,vr,e1,h⟩:=h
 subst e1
 cases r with
 | cons r rr=>
   rw[hs]
   refine assignInOrder_cons (thn (h1 pins s σ H _ _ _ I r h) fun _ s1 ⟨σ1,H1,I1,q1⟩=>?_)
   exact h2 pins s1 σ1 H1 _ _ Q I1 rr q1
noncomputable def cT4(K:PySem.W.Frag)(n:Nat)(t:TGs):TG:=fun v σ H Q=>∃ a xs,v=.ref a/\SqT K H a xs/\xs.length=n/\t xs σ H Q
theorem cA3{es:List Expr}{k:Nat}{t:TGs}{n:Nat}(hc:X.calm=true)(h:PGs X es t)
  (hn:(assignEach es X.env).length=n:=by rfl) (hst:(assignEach es X.env).findIdx? (·.1)=none:=by rfl):PG X (.Tuple es k pos) (cT4 X.K n t):=by
 intro pins s σ H v u Q I r hw
 obtain⟨a,xs,e1,hq,hl,hw⟩:=hw
 subst e1
 cases r
 obtain⟨its,rv,ht,hz⟩:=I.tuple hq
 refine assign_Tuple_tuple (I.ok.hd hc) ht (by simp[hn,← hl,rv.length]) hst fun h' hx=>?_
 have I1:Inv X pins σ H {s with heap:=h'}:=I.kept (t':=s.toks) fun b o e=>hx b o (Nat.ne_of_lt (Heap.lt_size e)) e
 exact h pins _ σ H xs _ Q I1 (by simpa using rv) hw
noncomputable def bW8(to ti:TE)(t:cL3):TG:=fun v σ H Q=>to σ H fun o H1=>ti σ H1 fun i H2=>t o i v H2 fun H3=>Q σ H3
theorem xO{o i:Expr}{to ti:TE}{t:cL3}(ho:PE X o to)(hi:PE X i ti)(hs:cR4 X t)
  (ha:∀ v,assign (.Subscript o i pos) X.env v=(do
   let ov ← holding [v] (eval o X.env)
   let iv ← holding [v,ov] (eval i X.env)
   standAt pos
   holding [v,ov,iv] (setItem ov iv v)
   release [v,ov,iv] []):=by intro _;rfl):PG X (.Subscript o i pos) (bW8 to ti t):=by
 intro pins s σ H v u Q I r h
 rw[ha]
 refine wpAny_bind (wpAny_holding (thn (ho pins s σ H _ I h) fun ov s1 ⟨x,H1,I1,r1,q1⟩=>?_))
 refine wpAny_bind (wpAny_holding (thn (hi pins s1 σ H1 _ I1 q1) fun iv s2 ⟨y,H2,I2,r2,q2⟩=>?_))
 refine wpAny_bind (wpAny_standAt (wpAny_bind (wpAny_holding (thn (hs pins s2 σ H2 x y v ov iv u _ I2 r1 r2 r q2) fun _ s3 ⟨H3,I3,q3⟩=>?_))))
 exact wpAny_release ⟨σ,H3,I3,q3⟩
noncomputable def bH5(te:TE)(g:TG):TS:=fun D σ H=>te σ H fun x H1=>g x σ H1 D.nx
theorem xP{tg e:Expr}{te:TE}{g:TG}(he:PE X e te)(hg:PG X tg g)(hs:swapsWithSole [tg] e pos.line X.env=pure false:=by rfl)(hw:swappedStores [tg] e X.env=pure none:=by rfl)
  (h1:(assignEach [tg] X.env).map (·.2)=[assign tg X.env]:=by rfl):PS X (.Assign [tg] e pos) (bH5 te g):=by
 intro pins s σ H D I h
 refine wpAny_Assign_stores (thn (he pins s σ H _ I h) fun v s1 ⟨x,H1,I1,r1,q1⟩=>?_) hs hw
 rw[h1]
 exact thn (hg pins s1 σ H1 x v _ I1 r1 q1) fun _ s2 q=>q
theorem rW{i:Nat}{x:Str}{e:Expr}{te:TE}{pos':Pos}(hN:X.N.Nodup)(hi:X.N[i]? = some x)(hx:Loc X.env.scope x)(he:PE X e te)(hs:swapsWith e (some (.Name x pos')) pos.line X.env=pure false:=by rfl)(hf:X.fn x=true\/X.env.scope.names.lookup x=some .local:=by first | exact .inl rfl | exact .inr rfl | assumption) :
  PS X (.Assign [.Name x pos'] e pos) (bH5 te (qJ i)):=by
 intro pins s σ H D I h
 refine wpAny_Assign_Name (thn (he pins s σ H _ I h) fun v s1 ⟨y,H1,I1,r1,q1⟩=>?_) hs
 exact mT I1 hN hi hx r1 (fun s2 I2=>⟨_,H1,I2,q1⟩) hf
noncomputable def cN2(i j:Nat)(ta:TA):TS:=fun D σ H=>ta σ H fun vs H1=>∃ v w,vs=[v,w]/\D.nx ((σ.set i (some v)).set j (some w)) H1
theorem cA4{i j:Nat}{x y:Str}{a b:Expr}{ta:TA}{px py pt:Pos}{kt k2 pt2}(hc:X.calm=true)(hN:X.N.Nodup)(hi:X.N[i]? = some x)(hj:X.N[j]? = some y)(hij:i≠j)
  (hx:X.env.scope.names.lookup x=some .local) (hy:X.env.scope.names.lookup y=some .local) (ha:PA X [a,b] ta)
  (hw:swappedStores [.Tuple [.Name x px,.Name y py] kt pt] (.Tuple [a,b] k2 pt2) X.env=pure (some [x,y]))
  (hs:swapsWithSole [.Tuple [.Name x px,.Name y py] kt pt] (.Tuple [a,b] k2 pt2) pos.line X.env=pure false:=by rfl) :
  PS X (.Assign [.Tuple [.Name x px,.Name y py] kt pt] (.Tuple [a,b] k2 pt2) pos) (cN2 i j ta):=by
 intro pins s σ H D I h
 rw[exec_Assign_arm]
 refine wpAny_bind (wpAny_standAt ?_)
 rw[hs]
 refine wpAny_bind (wpAny_pure ?_)
 rw[if_neg (by decide)]
 refine wpAny_bind (Tuple_ (thn (ha _ pins s σ H _ I h) fun us s1 ⟨vs,H1,I1,r1,q1⟩=>?_))
 obtain⟨v,w,e1,q1⟩:=q1
 subst e1
 obtain⟨u1,u2,rfl,rv,rw'⟩:∃ u1 u2,us=[u1,u2]/\eR v u1/\eR w u2:=by
  cases r1 with
  | cons p q=>
    cases q with
    | cons p' q'=>
      cases q'
      exact⟨_,_,rfl,p,p'⟩
 refine wpAny_newObj_type ?_ (by show 2<=sizeLine;decide)
 have I2:Inv X pins σ H1 {s1 with heap:=s1.heap.push {cls:=.type "tuple",data:=.seq [u1,u2].toArray}}:=I1.kept (t':=s1.toks) fun b o e=>Heap.get?_push_of_some _ e
 rw[hw]
 refine wpAny_bind (wpAny_pure ?_)
 show wpAny (model X.prog X.w) X.A (do rule "assign.swapped-stores";let items ← unpackItems (.ref s1.heap.objs.size) 2 none;assignInOrder [fun v=>bindName X.env y v,fun v=>bindName X.env x v] items.reverse;pure Flow.next) _ _ _
 refine wpAny_bind (wpAny_rule (wpAny_bind (unpackItems_tuple (items:=#[u1,u2]) (I.ok.hd hc) (IsTup.new s1.heap _) fun h' hx'=>?_)))
 have I3:=I2.kept (h':=h') (t':=s1.toks) fun b o e=>hx' b o (Nat.ne_of_lt (Heap.lt_size e)) e
 show wpAny _ _ (assignInOrder [fun v=>bindName X.env y v,fun v=>bindName X.env x v] [u2,u1] >>= fun _=>pure Flow.next) _ _ _
 refine wpAny_bind (assignInOrder_cons (wpAny_bindName (mT I3 hN hj (.inl hy) rw' (fun s2 I4=>?_) (.inr hy))))
 refine assignInOrder_cons (wpAny_bindName (mT I4 hN hi (.inl hx) rv (fun s3 I5=>assignInOrder_nil (wpAny_pure ?_)) (.inr hx)))
 rw[List.set_comm _ _ (Ne.symm hij)]at I5
 exact⟨_,H1,I5,q1⟩
end
section
variable{X:Cx}{pos:Pos}
noncomputable def aD5(c:TT)(tb:TS):TS:=fun D σ H=>∃ W:Nat->St->Hp->Prop,(∃ m,W m σ H)/\∀ m σ H,W m σ H ->
 c σ H fun b H1=>if b=true then ∃ N:St->Hp->Prop,(∀ σ' H',N σ' H'->∃ m',m' < m/\W m' σ' H')/\tb {D with nx:=N,ct:=N,bk:=D.nx} σ H1 else D.nx σ H1
theorem xQ{c:Expr}{body:List Stmt}{tc:TT}{tb:TS}(hp:PassesOwn (model X.prog X.w) X.A X.env X.xe)(hc:PT X c tc)(hb:PSs X body tb):PS X (.While c body [] pos) (aD5 tc tb):=by
 intro pins s σ H D I h
 obtain⟨W,⟨m0,w0⟩,turn⟩:=h
 refine wpAny_While (codeAny_whileLoop (fun n s'=>∃ σ' H',Inv X pins σ' H' s'/\W n σ' H') ?_ m0 ⟨σ,H,I,w0⟩)
 rintro n s1 ⟨σ1,H1,I1,w1⟩
 refine wpAny_passesOwn hp (thn (hc pins s1 σ1 H1 _ I1 (turn n σ1 H1 w1)) fun b s2 ⟨H2,I2,q2⟩=>?_)
 cases b with
 | true=>
   obtain⟨N,hN,q2⟩:=q2
   rw[if_pos rfl]
   refine wpAny_passesOwn hp (thn (hb pins s2 σ1 H2 _ I2 q2) fun f s3 q3=>?_)
   cases f with
   | next=>
     obtain⟨σ3,H3,I3,n3⟩:=q3
     obtain⟨m',hm,w3⟩:=hN σ3 H3 n3
     exact⟨m',hm,σ3,H3,I3,w3⟩
   | cont=>
     obtain⟨σ3,H3,I3,n3⟩:=q3
     obtain⟨m',hm,w3⟩:=hN σ3 H3 n3
     exact⟨m',hm,σ3,H3,I3,w3⟩
   | brk=>exact q3
   | ret v=>exact q3
 | false=>
   rw[if_neg Bool.false_ne_true]
   exact wpAny_execs_nil ⟨σ1,H2,I2,q2⟩
end
structure It where
 go:Nat->Hp->Prop
 yld:Nat->Hp->V->Hp->Prop
 stop:Nat->Hp->Prop
noncomputable def aD6(X:Cx)(pins:List (Addr×Obj))(H:Hp)(b:Addr):Prop:=
 H b=none/\b≠X.env.locals/\b∉X.fs/\(b∈X.ex\/X.s₀.heap.objs.size<=b)/\(∀ x c,X.env.cells.lookup x=some c->c≠b)/\∀ p∈X.pn++pins,p.1≠b
theorem Inv.fpOk{X:Cx}{pins:List (Addr×Obj)}{σ:St}{H H':Hp}{s:Shared}{b:Addr}(I:Inv X pins σ H s)(hb:s.heap.objs.size<=b)(hn:H' b=none):aD6 X pins H' b:=by
 refine⟨hn,Nat.ne_of_gt (Nat.lt_of_lt_of_le I.lt hb),I.nofs hb,.inr (Nat.le_trans I.sz hb),fun x c e z=>?_,fun p hp z=>?_⟩
 ·obtain⟨v,q⟩:=I.cell x c e
  exact absurd (Nat.lt_of_lt_of_le q.lt (by rw[z];exact hb)) (Nat.lt_irrefl _)
 ·exact absurd (Nat.lt_of_lt_of_le (Heap.lt_size (I.pin p hp).1) (by rw[z];exact hb)) (Nat.lt_irrefl _)
structure Turn(P:Program)(w:World)(K:PySem.W.Frag)(tg:Expr)(J:It)(fp:List Addr)(it:Addr)(tn:Nat->Heap->Prop):Prop where
 mem:it∈fp
 obj:∀ i h,tn i h->∀ b∈fp,∃ o,h.get? b=some o/\∀ v,o.data≠.cell v
 keep:∀ i h h',tn i h->(∀ b∈fp,∀ o,h.get? b=some o->h'.get? b=some o)->tn i h'
 item:∀ (X:Cx),X.prog=P->X.w=w->X.K=K->X.calm=true->∀ (i:Nat) (pins:List (Addr×Obj)) (s:Shared) (σ:St) (H:Hp) (E:Value->Shared->Prop),Inv X pins σ H s->(∀ b∈fp,aD6 X pins H b)->tn i s.heap->J.go i H ->
  wpAny (model P w) X.A (pyNext (.ref it)) (fun r s1=>∃ u,r=some u /\
   wpAny (model P w) X.A (letOwnedTupleGo tg (.ref it) u) (fun _ s2=>∃ x H',Inv X pins σ H' s2/\eR x u/\J.yld i H x H'/\tn (i+1) s2.heap/\∀ b∈fp,H' b=none) E s1) E s
 done:∀ (X:Cx),X.prog=P->X.w=w->X.K=K->X.calm=true->∀ (i:Nat) (pins:List (Addr×Obj)) (s:Shared) (σ:St) (H:Hp) (E:Value->Shared->Prop),Inv X pins σ H s->(∀ b∈fp,aD6 X pins H b)->tn i s.heap->J.stop i H ->
  wpAny (model P w) X.A (pyNext (.ref it)) (fun r s1=>r=none/\Inv X pins σ H s1) E s
 self:∀ (A:Around) (i:Nat) (s:Shared) (Q:Value->Shared->Prop) (E:Value->Shared->Prop),tn i s.heap->Q (.ref it) s->wpAny (model P w) A (pyIter (.ref it)) Q E s
noncomputable abbrev TI:=St->Hp->(It->Hp->Prop)->Prop
noncomputable def PIE(X:Cx)(pins:List (Addr×Obj))(σ:St)(tg:Expr)(R:It->Hp->Prop)(itv:Value)(s2:Shared):Prop:=
 ∃ (it:Addr) (fp:List Addr) (tn:Nat->Heap->Prop) (J:It) (H':Hp),itv=.ref it/\Inv X pins σ H' s2/\Turn X.prog X.w X.K tg J fp it tn/\tn 0 s2.heap/\(∀ b∈fp,aD6 X pins H' b)/\R J H'
noncomputable def PI(X:Cx)(tg iter:Expr)(wi:TI):Prop:=
 ∀ (pins:List (Addr×Obj)) (s:Shared) (σ:St) (H:Hp) (R:It->Hp->Prop),Inv X pins σ H s->wi σ H R ->
   wpAny (model X.prog X.w) X.A (eval iter X.env) (fun v s1=>wpAny (model X.prog X.w) X.A (pyIter v) (PIE X pins σ tg R) X.xe s1) X.xe s
theorem aD7{M:Model}{A:Around}{E:Value->Shared->Prop}{s:Shared}{tg:Expr}{it:Addr}{u:Value}{o:Obj}{n:String}{vs:Array Value}{Q:Unit->Shared->Prop}(ho:s.heap.get? it=some o)(hc:o.cls=.type n)(hd:o.data=.fields vs)
  (hn:["enumerate","zip","dict_itemiterator","dict_reverseitemiterator","odict_iterator","itertools.zip_longest","itertools.pairwise"].contains n=false) (hQ:Q () s):wpAny M A (letOwnedTupleGo tg (.ref it) u) Q E s:=by
 unfold letOwnedTupleGo
 cases tg<;>first
  | exact wpAny_pure hQ
  | (cases u<;>first
    | exact wpAny_pure hQ
    | (refine wpAny_bind (wpAny_load ho ?_)
       rw[hc,hd]
       show wpAny M A (if(["enumerate","zip","dict_itemiterator","dict_reverseitemiterator","odict_iterator","itertools.zip_longest","itertools.pairwise"].contains n&&vs[0]? == some (rawInt _))=true then _ else _) Q E s
       rw[if_neg (by intro h;rw[hn,Bool.false_and]at h;cases h)]
       exact wpAny_pure hQ))
noncomputable def Itl(K:PySem.W.Frag)(a:Addr):It:=
 ⟨fun i H=>∃ xs x,SqL K H a xs/\xs[i]? = some x,fun i H x H'=>H'=H/\∀ xs,SqL K H a xs->xs[i]? = some x,fun i H=>∃ xs,SqL K H a xs/\xs.length<=i⟩
noncomputable def Itt(K:PySem.W.Frag)(a:Addr):It:=
 ⟨fun i H=>∃ xs x,SqT K H a xs/\xs[i]? = some x,fun i H x H'=>H'=H/\∀ xs,SqT K H a xs->xs[i]? = some x,fun i H=>∃ xs,SqT K H a xs/\xs.length<=i⟩
noncomputable def Itr(lo:Int)(n:Nat):It:=⟨fun i _=>i < n,fun i H x H'=>H'=H/\x=.int (lo+i),fun i _=>n<=i⟩
theorem aD8{P:Program}{w:World}{K:PySem.W.Frag}{tg:Expr}(a it:Addr):Turn P w K tg (Itl K a) [it] it (fun i h=>h.IsListIter it a i) where
 mem:=by simp
 obj:=fun i h st b hb=>by
  have e:b=it:=by simpa using hb
  subst e
  obtain⟨o,e,c,d⟩:=st
  exact⟨o,e,fun v z=>by rw[d]at z;cases z⟩
 keep:=fun i h h' st k=>st.at fun o e=>k it (by simp) o e
 item:=by
  intro X hP hw hK hc i pins s σ H E I hf st hg
  subst hP hw hK
  obtain⟨xs,x,hq,hx⟩:=hg
  obtain⟨its,rv,p,hz⟩:=I.list hq
  obtain⟨u,hu,ru⟩:=rv.get hx
  obtain⟨f0,f1,f2,f3,f4,f5⟩:=hf it (by simp)
  refine wpAny_pyNext_list_item st p.isList (x:=u) (by simpa using hu) fun h' st' sb=>?_
  have I1:Inv X pins σ H {s with heap:=h'}:=I.turned (t':=s.toks) (fun b o hb e=>(sb.2 b hb).trans e) f0 f1 f3 f4 f5
  obtain⟨o,e,c,d⟩:=id st'
  exact⟨u,rfl,aD7 (s:={s with heap:=h'}) e c d (by decide) ⟨x,H,I1,ru,⟨rfl,fun ys hy=>by rw[I.list_inj hy hq];exact hx⟩,st',fun b hb=>(hf b hb).1⟩⟩
 done:=by
  intro X hP hw hK hc i pins s σ H E I hf st hg
  subst hP hw hK
  obtain⟨xs,hq,hx⟩:=hg
  obtain⟨its,rv,p,hz⟩:=I.list hq
  obtain⟨f0,f1,f2,f3,f4,f5⟩:=hf it (by simp)
  have hl:=rv.length
  exact wpAny_pyNext_list_end (I.ok.hd hc) st p.isList (by simp;omega) fun h' eb=>⟨rfl,I.turned (t':=s.toks) (fun b o hb e=>eb b o hb e) f0 f1 f3 f4 f5⟩
 self:=fun _ _ _ _ _ st h=>wpAny_pyIter_listiter st h
theorem zM{P:Program}{w:World}{K:PySem.W.Frag}{tg:Expr}(a it:Addr):Turn P w K tg (Itt K a) [it] it (fun i h=>h.IsTupleIter it a i) where
 mem:=by simp
 obj:=fun i h st b hb=>by
  have e:b=it:=by simpa using hb
  subst e
  obtain⟨o,e,c,d⟩:=st
  exact⟨o,e,fun v z=>by rw[d]at z;cases z⟩
 keep:=fun i h h' st k=>st.at fun o e=>k it (by simp) o e
 item:=by
  intro X hP hw hK hc i pins s σ H E I hf st hg
  subst hP hw hK
  obtain⟨xs,x,hq,hx⟩:=hg
  obtain⟨its,rv,p,hz⟩:=I.tuple hq
  obtain⟨u,hu,ru⟩:=rv.get hx
  obtain⟨f0,f1,f2,f3,f4,f5⟩:=hf it (by simp)
  refine wpAny_pyNext_tuple_item st (show s.heap.IsTuple a its.toArray from p) (x:=u) (by simpa using hu) fun h' st' sb=>?_
  have I1:Inv X pins σ H {s with heap:=h'}:=I.turned (t':=s.toks) (fun b o hb e=>(sb.2 b hb).trans e) f0 f1 f3 f4 f5
  obtain⟨o,e,c,d⟩:=id st'
  exact⟨u,rfl,aD7 (s:={s with heap:=h'}) e c d (by decide) ⟨x,H,I1,ru,⟨rfl,fun ys hy=>by rw[I.tuple_inj hy hq];exact hx⟩,st',fun b hb=>(hf b hb).1⟩⟩
 done:=by
  intro X hP hw hK hc i pins s σ H E I hf st hg
  subst hP hw hK
  obtain⟨xs,hq,hx⟩:=hg
  obtain⟨its,rv,p,hz⟩:=I.tuple hq
  obtain⟨f0,f1,f2,f3,f4,f5⟩:=hf it (by simp)
  have hl:=rv.length
  exact wpAny_pyNext_tuple_end (I.ok.hd hc) st (show s.heap.IsTuple a its.toArray from p) (by simp;omega) fun h' eb=>⟨rfl,I.turned (t':=s.toks) (fun b o hb e=>eb b o hb e) f0 f1 f3 f4 f5⟩
 self:=fun _ _ _ _ _ st h=>wpAny_pyIter_tupleiter st h
theorem zN{P:Program}{w:World}{K:PySem.W.Frag}{tg:Expr}(it:Addr)(lo:Int)(n:Nat):Turn P w K tg (Itr lo n) [it] it (fun i h=>IsRangeIter h it (lo+(i:Nat)*1) ((n:Int)-(i:Nat)) 1) where
 mem:=by simp
 obj:=fun i h st b hb=>by
  have e:b=it:=by simpa using hb
  subst e
  exact⟨_,st,fun v z=>by
   have z':Data.fields _=Data.cell v:=z
   cases z'⟩
 keep:=fun i h h' st k=>k it (by simp) _ st
 item:=by
  intro X hP hw hK hc i pins s σ H E I hf st hg
  subst hP hw hK
  obtain⟨f0,f1,f2,f3,f4,f5⟩:=hf it (by simp)
  have W:=Walks.range (prog:=X.prog) (w:=X.w) (I.ok.hd hc) it lo 1 n
  refine W.item i s _ _ hg st fun v h' tk hv st' kk=>?_
  obtain⟨t,rfl⟩:=hv
  have I1:Inv X pins σ H {s with heap:=h',toks:=tk}:=I.turned (fun b o hb e=>kk b o (by simpa using hb) e) f0 f1 f3 f4 f5
  refine⟨_,rfl,aD7 (s:={s with heap:=h',toks:=tk}) (n:="range_iterator") st' rfl rfl (by decide) ⟨.int (lo+i),H,I1,⟨t,?_⟩,⟨rfl,rfl⟩,st',fun b hb=>(hf b hb).1⟩⟩
  rw[Int.mul_one]
 done:=by
  intro X hP hw hK hc i pins s σ H E I hf st hg
  subst hP hw hK
  obtain⟨f0,f1,f2,f3,f4,f5⟩:=hf it (by simp)
  exact wpAny_pyNext_range_end (I.ok.hd hc) st (by have:n<=i:=hg;omega) fun h' eb=>⟨rfl,I.turned (t':=s.toks) (fun b o hb e=>eb b o hb e) f0 f1 f3 f4 f5⟩
 self:=fun _ _ _ _ _ st h=>wpAny_pyIter_rangeiter st h
section
variable{X:Cx}{tg:Expr}
theorem xR{pins:List (Addr×Obj)}{σ:St}{H:Hp}{s:Shared}{R:It->Hp->Prop}{E:Value->Shared->Prop}{lo hi:Int}{t u v:Tok}{tk:Nat}(I:Inv X pins σ H s)(h1:-(2 ^ 62)<=lo)(h2:lo < 2 ^ 62)(h3:-(2 ^ 62)<=hi)(h4:hi < 2 ^ 62)
  (q:R (Itr lo (hi-lo).toNat) H):wpAny (model X.prog X.w) X.A (pyIter (.ref s.heap.objs.size)) (PIE X pins σ tg R) E {s with heap:=s.heap.push {cls:=.type "range",data:=.fields #[.int lo t,.int hi u,.int 1 v]},toks:=tk}:=by
 refine wpAny_pyIter_range (IsRange.new ..) (small_one h1 h2 h3 h4) ?_
 have I1:Inv X pins σ H {s with heap:=s.heap.push {cls:=.type "range",data:=.fields #[.int lo t,.int hi u,.int 1 v]},toks:=tk}:=I.kept fun b o e=>Heap.get?_push_of_some _ e
 refine⟨(s.heap.push {cls:=.type "range",data:=.fields #[.int lo t,.int hi u,.int 1 v]}).objs.size,[(s.heap.push {cls:=.type "range",data:=.fields #[.int lo t,.int hi u,.int 1 v]}).objs.size],_,_,H,rfl,
  I1.kept (t':=tk) fun b o e=>Heap.get?_push_of_some _ e,zN _ lo (hi-lo).toNat,?_,fun b hb=>?_,q⟩
 ·have e1:lo+((0:Nat):Int)*1=lo:=by simp
  have e2:(((hi-lo).toNat:Nat):Int)-((0:Nat):Int)=Builtin.Range.rangeSize lo hi 1:=by rw[rangeSize_one];split<;>omega
  show IsRangeIter _ _ (lo+((0:Nat):Int)*1) ((((hi-lo).toNat:Nat):Int)-((0:Nat):Int)) 1
  rw[e1,e2]
  exact Heap.get?_push_size _ rfl
 ·have e:b=(s.heap.push {cls:=.type "range",data:=.fields #[.int lo t,.int hi u,.int 1 v]}).objs.size:=by simpa using hb
  subst e
  exact I1.fpOk (Nat.le_refl _) (I1.hok.fresh (Nat.le_refl _))
noncomputable def bM7(ta:TA):TI:=fun σ H R=>ta σ H fun vs H1=>∃ j:Int,vs=[.int j] /\ -(2 ^ 62)<=j/\j < 2 ^ 62/\R (Itr 0 j.toNat) H1
noncomputable def bM8(ta:TA):TI:=fun σ H R=>ta σ H fun vs H1=>∃ i j:Int,vs=[.int i,.int j]/\(-(2 ^ 62)<=i/\i < 2 ^ 62 /\ -(2 ^ 62)<=j/\j < 2 ^ 62)/\R (Itr i (j-i).toNat) H1
theorem fA{a:Expr}{ta:TA}{p pos:Pos}(hg:Gl X "range")(hm:X.mg "range"=none)(ha:PA X [a] ta)(hs:starEach [a] X.env=[(false,eval a X.env)]:=by rfl):PI X tg (.Call (.Name "range" p) [a] [] pos) (bM7 ta):=by
 intro pins s σ H R I h
 refine Call_ (lW I hg hm boot_range (PyProof.Rows.callWith_type1 (thn (ha pos pins s σ H _ I h) fun us s1 ⟨vs,H1,I1,r1,q1⟩=>?_) hs rfl))
 obtain⟨j,e,q1,q2,q⟩:=q1
 subst e
 cases r1 with
 | cons r rr=>
   cases rr
   obtain⟨t,rfl⟩:=r
   exact call_range_1 (xR I1 (by omega) (by omega) q1 q2 (by simpa using q))
theorem aD9{a b:Expr}{ta:TA}{p pos:Pos}(hg:Gl X "range")(hm:X.mg "range"=none)(ha:PA X [a,b] ta)(hs:starEach [a,b] X.env=[(false,eval a X.env),(false,eval b X.env)]:=by rfl)(hs2:starEach [b] X.env=[(false,eval b X.env)]:=by rfl) :
  PI X tg (.Call (.Name "range" p) [a,b] [] pos) (bM8 ta):=by
 intro pins s σ H R I h
 refine Call_ (lW I hg hm boot_range (PyProof.Rows.callWith_type1 (thn (ha pos pins s σ H _ I h) fun us s1 ⟨vs,H1,I1,r1,q1⟩=>?_) (by rw[hs,hs2]) (by rw[hs2];rfl)))
 obtain⟨i,j,e,⟨q1,q2,q3,q4⟩,q⟩:=q1
 subst e
 cases r1 with
 | cons r rr=>
   cases rr with
   | cons r' rr=>
     cases rr
     obtain⟨t,rfl⟩:=r
     obtain⟨t',rfl⟩:=r'
     exact call_range_2 (xR I1 q1 q2 q3 q4 q)
noncomputable def cL5(wi:TI)(g:TG)(tb:TS):TS:=fun D σ H=>wi σ H fun J H1=>∃ W:Nat->Nat->St->Hp->Prop,(∃ m,W 0 m σ H1)/\∀ i m σ H,W i m σ H ->
 (J.stop i H/\D.nx σ H)\/(J.go i H/\∃ N:St->Hp->Prop,(∀ σ' H',N σ' H'->∃ m',m' < m/\W (i+1) m' σ' H')/\∀ x H',J.yld i H x H'->g x σ H' fun σ2 H2=>tb {D with nx:=N,ct:=N,bk:=D.nx} σ2 H2)
noncomputable def nD(fp:List Addr)(h:Heap):List (Addr×Obj):=fp.filterMap fun b=>(h.get? b).map fun o=>(b,o)
theorem jG{fp:List Addr}{h:Heap}{b:Addr}{o:Obj}(hb:b∈fp)(e:h.get? b=some o):(b,o)∈nD fp h:=List.mem_filterMap.mpr ⟨b,hb,by rw[e];rfl⟩
theorem aE0{fp:List Addr}{h:Heap}{p:Addr×Obj}(hp:p∈nD fp h):p.1∈fp/\h.get? p.1=some p.2:=by
 obtain⟨b,hb,e⟩:=List.mem_filterMap.mp hp
 cases q:h.get? b with
 | none=>rw[q]at e;cases e
 | some o=>
   rw[q]at e
   have e':(b,o)=p:=Option.some.inj e
   subst e'
   exact⟨hb,q⟩
theorem Inv.pinned{pins:List (Addr×Obj)}{σ:St}{H:Hp}{s:Shared}{fp:List Addr}(I:Inv X pins σ H s)(hf:∀ b∈fp,aD6 X pins H b)(ho:∀ b∈fp,∃ o,s.heap.get? b=some o/\∀ v,o.data≠.cell v):Inv X (pins++nD fp s.heap) σ H s:=
 I.pins_of fun p hp=>(List.mem_append.mp hp).elim (fun z=>I.pin p (List.mem_append_right _ z)) fun z=>by
  obtain⟨hb,e⟩:=aE0 z
  obtain⟨f0,f1,f2,_⟩:=hf p.1 hb
  obtain⟨o,e',d⟩:=ho p.1 hb
  rw[e]at e';cases e'
  exact⟨e,f0,f1,f2,d⟩
theorem Inv.unpinned{pins pl:List (Addr×Obj)}{σ:St}{H:Hp}{s:Shared}(I:Inv X (pins++pl) σ H s):Inv X pins σ H s:=I.pins_of fun p hp=>I.pin p (List.mem_append_right _ (List.mem_append_left _ hp))
theorem jM{iter:Expr}{body:List Stmt}{wi:TI}{g:TG}{tb:TS}{pos:Pos}(hp:PassesOwn (model X.prog X.w) X.A X.env X.xe)(hc:X.calm=true)(hi:PI X tg iter wi)(hg:PG X tg g)(hb:PSs X body tb)
  (hs:∀ x,foldedSetIterable iter X.env x=pure x:=by intro _;rfl):PS X (.For tg iter body [] pos) (cL5 wi g tb):=by
 intro pins s σ H D I h
 refine wpAny_For (thn (hi pins s σ H _ I h) fun v s1 h1=>thn h1 fun itv s2 h2=>?_) hs
 obtain⟨it,fp,tn,J,H2,e,I2,T,st2,f2,W,⟨m0,w0⟩,turn⟩:=h2
 subst e
 -- what stays true of the iterator's objects through the loop
 have stat:∀ {H':Hp},(∀ b∈fp,H' b=none)->∀ b∈fp,aD6 X pins H' b:=fun hn b hb=>⟨hn b hb,(f2 b hb).2⟩
 refine codeAny_forLoop_any (fun n s'=>∃ i σ' H',Inv X pins σ' H' s'/\tn i s'.heap/\(∀ b∈fp,H' b=none)/\W i n σ' H') ?_ m0 ⟨0,σ,H2,I2,st2,fun b hb=>(f2 b hb).1,w0⟩
 rintro n s3 ⟨i,σ3,H3,I3,st3,fr3,w3⟩
 rcases turn i n σ3 H3 w3 with⟨stop,qn⟩ | ⟨go,N,hN,step⟩
 ·refine wpAny_passesOwn hp (thn (T.done X rfl rfl rfl hc i pins s3 σ3 H3 X.xe I3 (stat fr3) st3 stop) fun r s4 ⟨hr,I4⟩=>?_)
  subst hr
  exact wpAny_execs_nil ⟨σ3,H3,I4,qn⟩
 ·refine wpAny_passesOwn hp (thn (T.item X rfl rfl rfl hc i pins s3 σ3 H3 X.xe I3 (stat fr3) st3 go) fun r s4 ⟨u,hr,h4⟩=>?_)
  subst hr
  refine wpAny_passesOwn hp (thn h4 fun _ s5 ⟨x,H5,I5,r5,y5,st5,fr5⟩=>?_)
  have I5':=I5.pinned (stat fr5) (T.obj _ _ st5)
  refine wpAny_passesOwn hp (thn (hg _ s5 σ3 H5 x u _ I5' r5 (step x H5 y5)) fun _ s6 ⟨σ6,H6,I6,q6⟩=>?_)
  refine wpAny_passesOwn hp (thn (hb _ s6 σ6 H6 _ I6 q6) fun f s7 q7=>?_)
  have again:∀ {σ7:St} {H7:Hp},Inv X (pins++nD fp s5.heap) σ7 H7 s7->N σ7 H7->∃ m,m < n/\∃ i σ' H',Inv X pins σ' H' s7/\tn i s7.heap/\(∀ b∈fp,H' b=none)/\W i m σ' H':=fun{σ7 H7} I7 n7=>by
   obtain⟨m',hm,w7⟩:=hN σ7 H7 n7
   refine⟨m',hm,i+1,σ7,H7,I7.unpinned,T.keep _ _ _ st5 fun b hb o e=>(I7.pin (b,o) (List.mem_append_right _ (List.mem_append_right _ (jG hb e)))).1,fun b hb=>?_,w7⟩
   obtain⟨o,e,d⟩:=T.obj _ _ st5 b hb
   exact(I7.pin (b,o) (List.mem_append_right _ (List.mem_append_right _ (jG hb e)))).2.1
  cases f with
  | next=>obtain⟨σ7,H7,I7,n7⟩:=q7;exact again I7 n7
  | cont=>obtain⟨σ7,H7,I7,n7⟩:=q7;exact again I7 n7
  | brk=>obtain⟨σ7,H7,I7,q7⟩:=q7;exact⟨σ7,H7,I7.unpinned,q7⟩
  | ret v=>obtain⟨x7,σ7,H7,I7,r7,q7⟩:=q7;exact⟨x7,σ7,H7,I7.unpinned,r7,q7⟩
end
noncomputable abbrev R2:=V->V->Hp->VK->Prop
noncomputable def OpR(X:Cx)(f:Value->Value->Sem Value)(r:R2):Prop:=
 ∀ (pins:List (Addr×Obj)) (s:Shared) (σ:St) (H:Hp) (x y:V) (v u:Value) (Q:VK),Inv X pins σ H s->eR x v->eR y u->r x y H Q ->
   wpAny (model X.prog X.w) X.A (f v u) (EP X pins σ Q) X.xe s
noncomputable def UnR(X:Cx)(f:Value->Sem Value)(r:V->Hp->VK->Prop):Prop:=
 ∀ (pins:List (Addr×Obj)) (s:Shared) (σ:St) (H:Hp) (x:V) (v:Value) (Q:VK),Inv X pins σ H s->eR x v->r x H Q ->
   wpAny (model X.prog X.w) X.A (f v) (EP X pins σ Q) X.xe s
noncomputable def iT(X:Cx)(f:Value)(r:List V->Hp->VK->Prop):Prop:=
 ∀ (pins:List (Addr×Obj)) (s:Shared) (σ:St) (H:Hp) (xs:List V) (us:List Value) (Q:VK),Inv X pins σ H s->cO xs us->r xs H Q ->
   wpAny (model X.prog X.w) X.A (call f us) (EP X pins σ Q) X.xe s
noncomputable def tOp(r:R2)(ta tb:TE):TE:=fun σ H Q=>ta σ H fun x H1=>tb σ H1 fun y H2=>r x y H2 Q
noncomputable def tUn(r:V->Hp->VK->Prop)(ta:TE):TE:=fun σ H Q=>ta σ H fun x H1=>r x H1 Q
noncomputable def rI(C:Int->Int->Prop)(g:Int->Int->V):R2:=fun x y H Q=>∃ i j,x=.int i/\y=.int j/\C i j/\Q (g i j) H
noncomputable def rI0(g:Int->Int->V):R2:=fun x y H Q=>∃ i j,x=.int i/\y=.int j/\Q (g i j) H
noncomputable def rU(g:Int->V):V->Hp->VK->Prop:=fun x H Q=>∃ i,x=.int i/\Q (g i) H
section
variable{X:Cx}{a b c:Expr}{ta tb tc:TE}{pos:Pos}
theorem cN3(ha:PE X a ta)(hb:PE X b tb){pins:List (Addr×Obj)}{s:Shared}{σ:St}{H:Hp}{R:V->V->Hp->Prop}(I:Inv X pins σ H s)
  (h:ta σ H fun x H1=>tb σ H1 fun y H2=>R x y H2) {Q:Value->Shared->Prop} {f:Value->Value->Sem Value}
  (hf:∀ v u s2 x y H2,Inv X pins σ H2 s2->eR x v->eR y u->R x y H2->wpAny (model X.prog X.w) X.A (f v u) Q X.xe s2) :
  wpAny (model X.prog X.w) X.A (eval a X.env) (fun v s₁=>wpAny (model X.prog X.w) X.A (eval b X.env) (fun u s₂=>wpAny (model X.prog X.w) X.A (f v u) Q X.xe s₂) X.xe s₁) X.xe s:=by
 refine thn (ha pins s σ H _ I h) fun v s1 ⟨x,H1,I1,r1,q1⟩=>?_
 refine thn (hb pins s1 σ H1 _ I1 q1) fun u s2 ⟨y,H2,I2,r2,q2⟩=>?_
 exact hf v u s2 x y H2 I2 r1 r2 q2
theorem zO{op:Operator}{r:R2}(ho:OpR X (binaryOp op) r)(ha:PE X a ta)(hb:PE X b tb):PE X (.BinOp a op b pos) (tOp r ta tb):=by
 intro pins s σ H Q I h
 exact wpAny_BinOp (cN3 ha hb I h fun v u s2 x y H2 I2 rx ry q=>ho pins s2 σ H2 x y v u Q I2 rx ry q)
theorem cN4{op:UnaryOp}{r:V->Hp->VK->Prop}(ho:UnR X (unaryOp op) r)(ha:PE X a ta):PE X (.UnaryOp op a pos) (tUn r ta):=by
 intro pins s σ H Q I h
 exact UnaryOp_ (thn (ha pins s σ H _ I h) fun v s1 ⟨x,H1,I1,r1,q1⟩=>ho pins s1 σ H1 x v Q I1 r1 q1)
theorem opI{f:Value->Value->Sem Value}{C:Int->Int->Prop}{g:Int->Int->Int}
  (rule:∀ (i j:Int) (t u:Tok) (s:Shared) (Q:Value->Shared->Prop) (E:Value->Shared->Prop),C i j->Q (.int (g i j) s.toks) {s with toks:=s.toks+1}->wpAny (model X.prog X.w) X.A (f (.int i t) (.int j u)) Q E s) :
  OpR X f (rI C fun i j=>.int (g i j)):=by
 intro pins s σ H x y v u Q I rx ry h
 obtain⟨i,j,rfl,rfl,hc,q⟩:=h
 obtain⟨t,rfl⟩:=rx
 obtain⟨t',rfl⟩:=ry
 exact rule i j t t' s _ _ hc ⟨.int (g i j),H,I.tok _,⟨_,rfl⟩,q⟩
theorem cR5{f:Value->Value->Sem Value}{g:Int->Int->Int}
  (rule:∀ (i j:Int) (t u:Tok) (s:Shared) (Q:Value->Shared->Prop) (E:Value->Shared->Prop),Q (.int (g i j) s.toks) {s with toks:=s.toks+1}->wpAny (model X.prog X.w) X.A (f (.int i t) (.int j u)) Q E s) :
  OpR X f (rI0 fun i j=>.int (g i j)):=by
 intro pins s σ H x y v u Q I rx ry h
 obtain⟨i,j,rfl,rfl,q⟩:=h
 obtain⟨t,rfl⟩:=rx
 obtain⟨t',rfl⟩:=ry
 exact rule i j t t' s _ _ ⟨.int (g i j),H,I.tok _,⟨_,rfl⟩,q⟩
theorem cN5{f:Value->Value->Sem Value}{g:Int->Int->Bool}
  (rule:∀ (i j:Int) (t u:Tok) (s:Shared) (Q:Value->Shared->Prop) (E:Value->Shared->Prop),Q (.bool (g i j)) s->wpAny (model X.prog X.w) X.A (f (.int i t) (.int j u)) Q E s) :
  OpR X f (rI0 fun i j=>.bl (g i j)):=by
 intro pins s σ H x y v u Q I rx ry h
 obtain⟨i,j,rfl,rfl,q⟩:=h
 obtain⟨t,rfl⟩:=rx
 obtain⟨t',rfl⟩:=ry
 exact rule i j t t' s _ _ ⟨.bl (g i j),H,I,rfl,q⟩
noncomputable def bW9(i j:Int):Prop:=0<=j/\j<=1000000/\i.natAbs < 2 ^ 64
noncomputable def cA5(i j:Int):Prop:=(-(2 ^ 64) < i/\i < 2 ^ 64)\/(-(2 ^ 64) < j/\j < 2 ^ 64)
theorem cA5.ok{i j:Int}(h:cA5 i j):IntMulOk i j:=by
 rcases h with⟨h1,h2⟩ | ⟨h1,h2⟩
 ·exact .of_left (intBits_le_64 h1 h2)
 ·exact .of_right (intBits_le_64 h1 h2)
theorem cA6:OpR X (binaryOp .Add) (rI0 fun i j=>.int (i+j)):=cR5 fun _ _ _ _ _ _ _ q=>add_int q
theorem aE1:OpR X (binaryOp .Sub) (rI0 fun i j=>.int (i-j)):=cR5 fun _ _ _ _ _ _ _ q=>sub_int q
theorem cA7:OpR X (binaryOp .Mult) (rI cA5 fun i j=>.int (i*j)):=opI fun _ _ _ _ _ _ _ hc q=>mul_int q hc.ok
theorem iU:OpR X (binaryOp .Mod) (rI (fun _ j=>0 < j) fun i j=>.int (i % j)):=opI fun i j _ _ _ _ _ hc q=>by
 have h1:(0:Int) < j:=hc
 exact mod_int' (by omega) (by rw[Int.fmod_eq_emod_of_nonneg i (by omega)];exact q)
theorem cA8:OpR X (binaryOp .Pow) (rI bW9 fun i j=>.int (i ^ j.toNat)):=opI fun _ _ _ _ _ _ _ hc q=>pow_int_small hc.1 hc.2.1 hc.2.2 q
theorem unI{f:Value->Sem Value}{g:Int->Int}
  (rule:∀ (i:Int) (t:Tok) (s:Shared) (Q:Value->Shared->Prop) (E:Value->Shared->Prop),Q (.int (g i) s.toks) {s with toks:=s.toks+1}->wpAny (model X.prog X.w) X.A (f (.int i t)) Q E s) :
  UnR X f (rU fun i=>.int (g i)):=by
 intro pins s σ H x v Q I rx h
 obtain⟨i,rfl,q⟩:=h
 obtain⟨t,rfl⟩:=rx
 exact rule i t s _ _ ⟨.int (g i),H,I.tok _,⟨_,rfl⟩,q⟩
theorem cA9:UnR X (unaryOp .USub) (rU fun i=>.int (-i)):=unI fun _ _ _ _ _ q=>neg_int q
end
noncomputable def bM9:V->V->Bool
 | .non,.non=>true | .non,.int _=>true | .int _,.non=>true | .non,.bl _=>true | .bl _,.non=>true | .non,.str _=>true | .str _,.non=>true
 | .int _,.int _=>true | .bl _,.bl _=>true | .str _,.str _=>true | .byt _,.byt _=>true
 | .int _,.str _=>true | .str _,.int _=>true | .bl _,.str _=>true | .str _,.bl _=>true
 | _,_=>false
noncomputable def rEq:R2:=fun x y H Q=>bM9 x y=true/\Q (.bl (decide (x=y))) H
noncomputable def rNe:R2:=fun x y H Q=>bM9 x y=true/\Q (.bl (!decide (x=y))) H
theorem aE2{i j:Int}:decide (V.int i=V.int j)=(i==j):=by
 rw[Bool.eq_iff_iff]
 simp
theorem bH6{i j:Bool}:decide (V.bl i=V.bl j)=(i==j):=by
 rw[Bool.eq_iff_iff]
 simp
theorem qK{i j:Str}:decide (V.str i=V.str j)=(i==j):=by
 rw[Bool.eq_iff_iff]
 simp
theorem aE3{i j:Array UInt8}:decide (V.byt i=V.byt j)=(i.toList==j.toList):=by
 rw[Bool.eq_iff_iff]
 cases i
 cases j
 simp
section
variable{X:Cx}{a b c:Expr}{ta tb tc:TE}{pos:Pos}
theorem bM{pins:List (Addr×Obj)}{σ:St}{H:Hp}{s:Shared}{Q:VK}{k k':Bool}(I:Inv X pins σ H s)(q:Q (.bl k) H)(e:k=k'):EP X pins σ Q (.bool k') s:=by
 subst e
 exact⟨.bl k,H,I,rfl,q⟩
theorem cN6:OpR X (compareOp .Eq) rEq:=by
 intro pins s σ H x y v u Q I rx ry h
 obtain⟨hs,q⟩:=h
 cases x with
 | non=>
   cases rx
   cases y with
   | non=>cases ry;exact PySem.EqNone.eq_none_none (bM I q (by simp))
   | bl j=>cases ry;exact PySem.EqNone.eq_none_bool (bM I q (by simp))
   | int j=>obtain⟨t',rfl⟩:=ry;exact PySem.EqNone.eq_none_int (bM I q (by simp))
   | str j=>obtain⟨t',rfl⟩:=ry;exact PySem.EqNone.eq_none_str (bM I q (by simp))
   | _=>exact absurd (show false=true from hs) Bool.false_ne_true
 | bl i=>
   cases rx
   cases y with
   | non=>cases ry;exact PySem.EqNone.eq_bool_none (bM I q (by simp))
   | bl j=>cases ry;exact eq_bool (bM I q bH6)
   | str j=>obtain⟨t',rfl⟩:=ry;exact PySem.EqMixed.eq_bool_str (bM I q (by simp))
   | _=>exact absurd (show false=true from hs) Bool.false_ne_true
 | int i=>
   obtain⟨t,rfl⟩:=rx
   cases y with
   | non=>cases ry;exact PySem.EqNone.eq_int_none (bM I q (by simp))
   | int j=>obtain⟨t',rfl⟩:=ry;exact eq_int (bM I q aE2)
   | str j=>obtain⟨t',rfl⟩:=ry;exact PySem.EqMixed.eq_int_str (bM I q (by simp))
   | _=>exact absurd (show false=true from hs) Bool.false_ne_true
 | str i=>
   obtain⟨t,rfl⟩:=rx
   cases y with
   | non=>cases ry;exact PySem.EqNone.eq_str_none (bM I q (by simp))
   | bl j=>cases ry;exact PySem.EqMixed.eq_str_bool (bM I q (by simp))
   | int j=>obtain⟨t',rfl⟩:=ry;exact PySem.EqMixed.eq_str_int (bM I q (by simp))
   | str j=>obtain⟨t',rfl⟩:=ry;exact eq_str (bM I q qK)
   | _=>exact absurd (show false=true from hs) Bool.false_ne_true
 | byt i=>
   obtain⟨t,rfl⟩:=rx
   cases y with
   | byt j=>obtain⟨t',rfl⟩:=ry;exact PySem.W.eq_bytes (bM I q aE3)
   | _=>exact absurd (show false=true from hs) Bool.false_ne_true
 | _=>cases y<;>exact absurd (show false=true from hs) Bool.false_ne_true
theorem cN7:OpR X (compareOp .NotEq) rNe:=by
 intro pins s σ H x y v u Q I rx ry h
 obtain⟨hs,q⟩:=h
 cases x with
 | non=>
   cases rx
   cases y with
   | non=>cases ry;exact PySem.EqNone.ne_none_none (bM I q (by simp))
   | bl j=>cases ry;exact PySem.EqNone.ne_none_bool (bM I q (by simp))
   | int j=>obtain⟨t',rfl⟩:=ry;exact PySem.EqNone.ne_none_int (bM I q (by simp))
   | str j=>obtain⟨t',rfl⟩:=ry;exact PySem.EqNone.ne_none_str (bM I q (by simp))
   | _=>exact absurd (show false=true from hs) Bool.false_ne_true
 | bl i=>
   cases rx
   cases y with
   | non=>cases ry;exact PySem.EqNone.ne_bool_none (bM I q (by simp))
   | bl j=>cases ry;exact ne_bool (bM I q (congrArg not bH6))
   | str j=>obtain⟨t',rfl⟩:=ry;exact PySem.EqMixed.ne_bool_str (bM I q (by simp))
   | _=>exact absurd (show false=true from hs) Bool.false_ne_true
 | int i=>
   obtain⟨t,rfl⟩:=rx
   cases y with
   | non=>cases ry;exact PySem.EqNone.ne_int_none (bM I q (by simp))
   | int j=>obtain⟨t',rfl⟩:=ry;exact ne_int (bM I q (congrArg not aE2))
   | str j=>obtain⟨t',rfl⟩:=ry;exact PySem.EqMixed.ne_int_str (bM I q (by simp))
   | _=>exact absurd (show false=true from hs) Bool.false_ne_true
 | str i=>
   obtain⟨t,rfl⟩:=rx
   cases y with
   | non=>cases ry;exact PySem.EqNone.ne_str_none (bM I q (by simp))
   | bl j=>cases ry;exact PySem.EqMixed.ne_str_bool (bM I q (by simp))
   | int j=>obtain⟨t',rfl⟩:=ry;exact PySem.EqMixed.ne_str_int (bM I q (by simp))
   | str j=>obtain⟨t',rfl⟩:=ry;exact ne_str (bM I q (congrArg not qK))
   | _=>exact absurd (show false=true from hs) Bool.false_ne_true
 | byt i=>
   obtain⟨t,rfl⟩:=rx
   cases y with
   | byt j=>obtain⟨t',rfl⟩:=ry;exact PySem.W.ne_bytes (bM I q (congrArg not aE3))
   | _=>exact absurd (show false=true from hs) Bool.false_ne_true
 | _=>cases y<;>exact absurd (show false=true from hs) Bool.false_ne_true
theorem bB0:OpR X (compareOp .Lt) (rI0 fun i j=>.bl (decide (i < j))):=cN5 fun _ _ _ _ _ _ _ q=>lt_int q
theorem zP:OpR X (compareOp .Gt) (rI0 fun i j=>.bl (decide (j < i))):=cN5 fun _ _ _ _ _ _ _ q=>gt_int q
theorem cN8:OpR X (compareOp .GtE) (rI0 fun i j=>.bl (decide (j<=i))):=cN5 fun _ _ _ _ _ _ _ q=>ge_int q
theorem aE4:OpR X (compareOp .In) (fun x y H Q=>∃ i j,x=.str i/\y=.str j/\Q (.bl (!(Builtin.Str.occurrences j i 0 j.length 1).isEmpty)) H):=by
 intro pins s σ H x y v u Q I rx ry h
 obtain⟨i,j,rfl,rfl,q⟩:=h
 obtain⟨t,rfl⟩:=rx
 obtain⟨t',rfl⟩:=ry
 exact in_str (bM I q rfl)
theorem bN0:OpR X (compareOp .IsNot) (fun x y H Q=>y=.non/\Q (.bl (!decide (x=.non))) H):=by
 intro pins s σ H x y v u Q I rx ry h
 obtain⟨rfl,q⟩:=h
 cases ry
 refine isnot_none_gen (bM I q ?_)
 cases x<;>first
  | (cases rx;rfl)
  | (obtain⟨t,rfl⟩:=rx;rfl)
theorem rX:OpR X (compareOp .NotIn) (fun x y H Q=>∃ i j,x=.str i/\y=.str j/\Q (.bl (!(!(Builtin.Str.occurrences j i 0 j.length 1).isEmpty))) H):=by
 intro pins s σ H x y v u Q I rx ry h
 obtain⟨i,j,rfl,rfl,q⟩:=h
 obtain⟨t,rfl⟩:=rx
 obtain⟨t',rfl⟩:=ry
 exact notIn_str (bM I q rfl)
theorem OpR.or{f:Value->Value->Sem Value}{r r':R2}(h:OpR X f r)(h':OpR X f r'):OpR X f (fun x y H Q=>r x y H Q\/r' x y H Q):=by
 intro pins s σ H x y v u Q I rx ry q
 rcases q with q | q
 ·exact h pins s σ H x y v u Q I rx ry q
 ·exact h' pins s σ H x y v u Q I rx ry q
theorem bF(b:Expr){op:CmpOp}(h:op≠.In:=by decide)(h2:op≠.NotIn:=by decide):behindInMarks op b=false:=by
 have e1:(op==CmpOp.In)=false:=by cases op<;>first | rfl | exact absurd rfl h
 have e2:(op==CmpOp.NotIn)=false:=by cases op<;>first | rfl | exact absurd rfl h2
 cases b<;>simp[behindInMarks,e1,e2]
theorem bN1{op:CmpOp}{r:R2}(ho:OpR X (compareOp op) r)(ha:PE X a ta)(hb:PE X b tb)(hm:behindInMarks op b=false):PE X (.Compare a [op] [b] pos) (tOp r ta tb):=by
 intro pins s σ H Q I h
 exact wpAny_Compare1 (cN3 ha hb I h fun v u s2 x y H2 I2 rx ry q=>ho pins s2 σ H2 x y v u Q I2 rx ry q) hm
noncomputable def cB0(t:TE):TT:=fun σ H Q=>t σ H fun x H'=>∃ k,x=.bl k/\Q k H'
theorem iD{op:CmpOp}{r:R2}(ho:OpR X (compareOp op) r)(ha:PE X a ta)(hb:PE X b tb)(hm:behindInMarks op b=false):PT X (.Compare a [op] [b] pos) (cB0 (tOp r ta tb)):=by
 intro pins s σ H Q I h
 refine wpAny_isTrue_Compare1 (thn (ha pins s σ H _ I h) fun v s1 ⟨x,H1,I1,r1,q1⟩=>thn (hb pins s1 σ H1 _ I1 q1) fun u s2 ⟨y,H2,I2,r2,q2⟩=>
  thn (ho pins s2 σ H2 x y v u _ I2 r1 r2 q2) fun c s3 ⟨z,H3,I3,r3,k,e,q3⟩=>?_) hm
 subst e
 cases r3
 exact wpAny_truthy_bool ⟨H3,I3,q3⟩
noncomputable def cB1(r r':R2)(ta tb tc:TE):TE:=fun σ H Q=>ta σ H fun x H1=>tb σ H1 fun y H2=>r x y H2 fun z H3=>∃ k,z=.bl k /\
 (if k=true then tc σ H3 fun w' H4=>r' y w' H4 Q else Q (.bl false) H3)
theorem pH:(sizeLine:Nat) < 2 ^ 63:=by rw[sizeLine_eq];decide
theorem zQ:OpR X (binaryOp .Add) (fun x y H Q=>∃ i j,x=.str i/\y=.str j/\i.length+j.length<=sizeLine/\Q (.str (i++j)) H):=by
 intro pins s σ H x y v u Q I rx ry h
 obtain⟨i,j,rfl,rfl,hz,q⟩:=h
 obtain⟨t,rfl⟩:=rx
 obtain⟨t',rfl⟩:=ry
 exact add_str (fun t' tk=>⟨.str (i++j),H,I.tok _,⟨_,rfl⟩,q⟩) hz
theorem rY{x:V}{us:List Value}(r:cO [x] us):∃ u,us=[u]/\eR x u:=by
 cases r with
 | cons r1 r2=>cases r2;exact⟨_,rfl,r1⟩
theorem bN2{x y:V}{us:List Value}(r:cO [x,y] us):∃ u w',us=[u,w']/\eR x u/\eR y w':=by
 cases r with
 | cons r1 r2=>
   cases r2 with
   | cons r3 r4=>cases r4;exact⟨_,_,rfl,r1,r3⟩
theorem aE5(hc:X.calm=true):iT X (.builtin "max") (fun xs H Q=>∃ i j,xs=[.int i,.int j]/\Q (.int (if j > i then j else i)) H):=by
 intro pins s σ H xs us Q I r h
 obtain⟨i,j,rfl,q⟩:=h
 obtain⟨u,w',rfl,⟨t,rfl⟩,⟨t',rfl⟩⟩:=bN2 r
 refine max_two_ints (I.ok.hd hc) fun h' tk k=>⟨_,H,I.kept k,?_,q⟩
 by_cases hj:j > i
 ·rw[if_pos hj,if_pos hj];exact⟨_,rfl⟩
 ·rw[if_neg hj,if_neg hj];exact⟨_,rfl⟩
theorem nE(hc:X.calm=true):iT X (.builtin "min") (fun xs H Q=>∃ i j,xs=[.int i,.int j]/\Q (.int (if j < i then j else i)) H):=by
 intro pins s σ H xs us Q I r h
 obtain⟨i,j,rfl,q⟩:=h
 obtain⟨u,w',rfl,⟨t,rfl⟩,⟨t',rfl⟩⟩:=bN2 r
 refine min_two_ints (I.ok.hd hc) fun h' tk k=>⟨_,H,I.kept k,?_,q⟩
 by_cases hj:j < i
 ·rw[if_pos hj,if_pos hj];exact⟨_,rfl⟩
 ·rw[if_neg hj,if_neg hj];exact⟨_,rfl⟩
theorem nF:iT X (.type "int") (fun xs H Q=>(∃ i,xs=[.int i]/\Q (.int i) H)\/∃ k,xs=[.bl k]/\Q (.int (if k then 1 else 0)) H):=by
 intro pins s σ H xs us Q I r h
 rcases h with⟨i,rfl,q⟩ | ⟨k,rfl,q⟩
 ·obtain⟨u,rfl,t,rfl⟩:=rY r
  exact call_int_int ⟨.int i,H,I,⟨_,rfl⟩,q⟩
 ·obtain⟨u,rfl,r1⟩:=rY r
  cases r1
  exact call_int_bool ⟨.int (if k then 1 else 0),H,I.tok _,⟨_,rfl⟩,q⟩
end
structure ObjM(h:Heap)(x dx C:Addr)(mA:Str->Option Value):Prop where
 obj:h.get? x=some (PySem.W.instObj C dx)
 ns:h.Ns1 dx mA
 ne:dx≠x
theorem aE6{h:Heap}{dx:Addr}{mA:Str->Option Value}(n:h.Ns1 dx mA):∃ od,h.get? dx=some od/\∀ name,PySem.W.lookIn name od=some (mA name):=by
 obtain⟨o,es,ep,ho,hd,hk,_,hm⟩:=n
 refine⟨o,ho,fun name=>?_⟩
 have e:=hm name
 unfold nsFind findBy at e
 rw[← Array.find?_toList]at e
 unfold PySem.W.lookIn
 rw[hd]
 dsimp only
 split
 ·rename_i y q
  rw[q]at e
  exact congrArg some e
 ·rename_i q
  rw[q]at e
  have a:es.toList.any (·.refKey)=false:=by
   rw[List.any_eq_false]
   intro y hy
   obtain⟨z,t,hkey⟩:=hk y (Array.mem_toList_iff.mp hy)
   simp[DictEntry.refKey,hkey]
  have a':¬ es.toList.any (·.refKey)=true:=by rw[a];exact Bool.false_ne_true
  rw[if_neg a']
  exact congrArg some e
theorem ObjM.look{h:Heap}{x dx C:Addr}{mA:Str->Option Value}(I:ObjM h x dx C mA):∃ od,PySem.W.InstAt h x (PySem.W.instObj C dx) C (some od)/\∀ name,PySem.W.lookIn name od=some (mA name):=
 let ⟨od,ho,hl⟩:=aE6 I.ns
 ⟨od,⟨I.obj,rfl,rfl,ho⟩,hl⟩
section
variable{prog:Program}{w:World}{A:Around}{E:Value->Shared->Prop}{s:Shared}{K:PySem.W.Frag}{x dx C f:Addr}{mA:Str->Option Value}{name:Str}{v:Value}
end
theorem bA7.some_of{v:V}{o:Option Value}(r:bA7 (some v) o):∃ u,o=some u/\eR v u:=by
 cases o with
 | none=>exact(show False from r).elim
 | some u=>exact⟨u,rfl,r⟩
section
variable{P:Program}{w:World}{H H':Hp}{h h':Heap}{a C dx:Addr}{fs fs':List (Str×V)}
theorem bN3(hok:HOk P w H h)(e:H a=some (.ins C dx fs)):∃ mA,ObjM h a dx C mA/\(∀ f,bA7 (fs.lookup f) (mA f))/\PySem.Within mA (fs.map (·.1))/\fs.length<=1000/\H dx=some (.own a):=by
 obtain⟨d,z,ne,ob,mA,n,r,q⟩:=(show dQ P w H h a (.ins C dx fs)from hok a _ e)
 exact⟨mA,⟨ob,n,ne⟩,r,q,z,d⟩
end
structure Cls(K:PySem.W.Frag)(C:Addr):Prop where
 pg:PySem.W.plainGet K C Str.empty=true
 hd:PySem.W.hasDictIn K C=true
 po:PySem.W.plainOver K C=true
 sa:PySem.W.findIn K (.ref C) "__setattr__"=some (some (.builtin "object.__setattr__"))
theorem Cls.get{K:PySem.W.Frag}{C:Addr}(c:Cls K C)(f:Str):PySem.W.plainGet K C f=true:=c.pg
section
variable{X:Cx}{pins:List (Addr×Obj)}{σ:St}{H:Hp}{s:Shared}{a C dx:Addr}{fs:List (Str×V)}{f:Str}{v:V}{A:Around}{E:Value->Shared->Prop}
end
section
variable{X:Cx}{o e value:Expr}{f:Str}{pos pos' tpos:Pos}{ta tv:TE}
end
section
variable{X:Cx}{pins:List (Addr×Obj)}{σ:St}{H:Hp}{s:Shared}{A:Around}{E:Value->Shared->Prop}{Q:Value->Shared->Prop}{c:Value}{b:Bool}
inductive TyOf(K:PySem.W.Frag)(H:Hp):V->Value->Prop where
 | non:TyOf K H .non (.type "NoneType")
 | bl (x:Bool):TyOf K H (.bl x) (.type "bool")
 | int (i:Int):TyOf K H (.int i) (.type "int")
 | str (x:Str):TyOf K H (.str x) (.type "str")
 | flt (x:UInt64):TyOf K H (.flt x) (.type "float")
 | lst {a:Addr} {xs:List V} (e:H a=some (.lst xs)):TyOf K H (.ref a) (.type "list")
 | frz {a:Addr} {o:Obj} {xs:List V} (e:H a=some (.frz o (.lst xs))):TyOf K H (.ref a) (.type "list")
 | tup {a:Addr} {xs:List V} (e:H a=some (.tup xs)):TyOf K H (.ref a) (.type "tuple")
 | dK {a:Addr} {kvs:List (Key×V)} (e:H a=some (.dK kvs)):TyOf K H (.ref a) (.type "dict")
 | dT {a:Addr} {kvs:List (List Key×V)} (e:H a=some (.dT kvs)):TyOf K H (.ref a) (.type "dict")
 | ins {a C dx:Addr} {fs:List (Str×V)} (e:H a=some (.ins C dx fs)) (cl:Cls K C) (ha:PySem.W.findIn K (.ref C) "__class__"=some (some (.builtin "object.__class__")))
   (hn:PySem.W.specialIn K (.builtin "object.__class__") "__get__"=some (some (.builtin "getset_descriptor.__get__"))) (htk:PySem.W.takesIn K (.builtin "object.__class__")=some true)
   (hm:PySem.W.mroIn K C (.type "object")=some true):TyOf K H (.ref a) (.ref C)
theorem aE7{x:V}{u t:Value}(I:Inv X pins σ H s)(rx:eR x u)(ty:TyOf X.K H x t)(e:PySem.W.kitOne X.K t c=some b)(h:∀ tk,Q (.bool b) {s with toks:=tk}) :
  wpAny (model X.prog X.w) A (call (.builtin "isinstance") [u,c]) Q E s:=by
 cases ty with
 | non=>cases (show u=Value.none from rx);exact PySem.W.kia_one PySem.W.kitx_none I.kIn True.intro e (fun z=>nomatch z) h
 | bl y=>cases (show u=Value.bool y from rx);exact PySem.W.kia_one PySem.W.kitx_bool I.kIn True.intro e (fun z=>nomatch z) h
 | int i=>obtain⟨t,q⟩:=(show ∃ t,u=Value.int i t from rx);cases q;exact PySem.W.kia_one PySem.W.kitx_int I.kIn True.intro e (fun z=>nomatch z) h
 | str y=>obtain⟨t,q⟩:=(show ∃ t,u=Value.str y t from rx);cases q;exact PySem.W.kia_one PySem.W.kitx_str I.kIn True.intro e (fun z=>nomatch z) h
 | flt y=>obtain⟨t,q⟩:=(show ∃ t,u=Value.float y t from rx);cases q;exact PySem.W.kia_one PySem.W.kitx_float I.kIn True.intro e (fun z=>nomatch z) h
 | @lst a xs ea=>
   cases (show u=Value.ref a from rx)
   obtain⟨_,_,n,_,h1⟩:=(show dQ X.prog X.w H s.heap a (.lst xs)from I.hok a _ ea)
   exact PySem.W.kia_one PySem.W.kitx_list I.kIn ⟨_,h1,rfl⟩ e (fun z=>nomatch z) h
 | @frz a ob xs ea=>
   cases (show u=Value.ref a from rx)
   obtain⟨_,_,_,n,_,h1⟩:=(show dQ X.prog X.w H s.heap a (.frz ob (.lst xs))from I.hok a _ ea)
   exact PySem.W.kia_one PySem.W.kitx_list I.kIn ⟨_,h1,rfl⟩ e (fun z=>nomatch z) h
 | @tup a xs ea=>
   cases (show u=Value.ref a from rx)
   obtain⟨_,_,_,p,_⟩:=(show dQ X.prog X.w H s.heap a (.tup xs)from I.hok a _ ea)
   obtain⟨o,h1,h2,_⟩:=p
   exact PySem.W.kia_one PySem.W.kitx_tuple I.kIn ⟨o,h1,h2⟩ e (fun z=>nomatch z) h
 | @dK a kvs ea=>
   cases (show u=Value.ref a from rx)
   obtain⟨_,_,vs,_,p⟩:=(show dQ X.prog X.w H s.heap a (.dK kvs)from I.hok a _ ea)
   obtain⟨o,es,ep,h1,h2,_⟩:=p
   exact PySem.W.kia_one PySem.W.kitx_dict I.kIn ⟨o,h1,h2.1⟩ e (fun z=>nomatch z) h
 | @dT a kvs ea=>
   cases (show u=Value.ref a from rx)
   obtain⟨_,_,xs,_,o,es,ep,h1,h2,_⟩:=(show dQ X.prog X.w H s.heap a (.dT kvs)from I.hok a _ ea)
   exact PySem.W.kia_one PySem.W.kitx_dict I.kIn ⟨o,h1,h2.1⟩ e (fun z=>nomatch z) h
 | @ins a C dx fs ea cl ha hn htk hm=>
   cases (show u=Value.ref a from rx)
   obtain⟨mA,O,_⟩:=bN3 I.hok ea
   obtain⟨od,J,_⟩:=O.look
   exact PySem.W.kia_one (PySem.W.kitx_own (cl.get _) cl.hd ha hn htk hm) I.kIn J e (fun z=>nomatch z) h
end
structure Room(k:Nat)(A:Around):Prop where
 hd:A.handled=none
 dp:A.depth+3*k+5 < recursionLimit
 un:A.units+16*k+200 < cLine
theorem Room.mono{j k:Nat}{A:Around}(r:Room k A)(h:j<=k):Room j A:=⟨r.hd,by have:=r.dp;omega,by have:=r.un;omega⟩
theorem Room.deeper{k:Nat}{A:Around}(r:Room (k+1) A)(env:Env):Room k (A.deeper env):=
 ⟨r.hd,by have:=r.dp;show A.depth+1+3*k+5 < _;omega,by have:=r.un;show A.units+3+16*k+200 < _;omega⟩
theorem Room.depth{k:Nat}{A:Around}(r:Room k A):A.depth < recursionLimit:=by have:=r.dp;omega
theorem Room.units{k:Nat}{A:Around}(r:Room k A):A.units+64 < cLine:=by have:=r.un;omega
noncomputable def cN9:TA:=fun _ H Q=>Q [] H
noncomputable def bB1(ta:TE)(tr:TA):TA:=fun σ H Q=>ta σ H fun x H1=>tr σ H1 fun xs H2=>Q (x::xs) H2
section
variable{X:Cx}{e:Expr}{es:List Expr}{te:TE}{t:TA}{pos:Pos}
theorem eI:PA X [] cN9:=fun _ _ _ _ H Q I h=>Calls.spliced_nil ⟨[],H,I,.nil,h⟩
theorem bO(ha:PE X e te)(hr:PA X es t)(hs:starEach (e::es) X.env=(false,eval e X.env)::starEach es X.env:=by rfl):PA X (e::es) (bB1 te t):=by
 intro pos pins s σ H Q I h
 rw[hs]
 show wpAny _ _ (spliced ((false,eval e X.env)::backTo pos (starEach es X.env))) _ _ s
 refine Calls.spliced_cons (thn (ha pins s σ H _ I h) fun u s1 ⟨x,H1,I1,r1,q1⟩=>?_)
 exact thn (hr pos pins s1 σ H1 _ I1 q1) fun us s2 ⟨xs,H2,I2,r2,q2⟩=>⟨x::xs,H2,I2,.cons r1 r2,q2⟩
noncomputable def cR6(t:TA):TE:=fun σ H Q=>t σ H fun xs H1=>xs.length<=sizeLine/\∀ p,H1 p=none->Q (.ref p) (upd H1 p (.tup xs))
noncomputable def cR7(t:TA):TE:=fun σ H Q=>t σ H fun xs H1=>xs.length<=sizeLine/\∀ p,H1 p=none->Q (.ref p) (upd H1 p (.lst xs))
theorem cB2{x1}(h:PA X es t):PE X (.Tuple es x1 pos) (cR6 t):=by
 intro pins s σ H Q I hq
 refine wpAny_Tuple_spliced (thn (h pos pins s σ H _ I hq) fun us s1 ⟨xs,H1,I1,r,z,q⟩=>⟨by rw[← r.length];exact z,?_⟩)
 have hf:H1 s1.heap.objs.size=none:=I1.hok.fresh (Nat.le_refl _)
 refine⟨.ref s1.heap.objs.size,upd H1 s1.heap.objs.size (.tup xs),I1.laid (t':=s1.toks) (fun b u e=>Heap.get?_push_of_some _ e) (Nat.le_refl _) ?_,rfl,q _ hf⟩
 exact⟨z,us,r,⟨_,Heap.get?_push_size _ rfl,rfl,_,rfl⟩,⟨_,Heap.get?_push_size _ rfl,rfl⟩⟩
theorem bH7(h:PA X es t):PE X (.List es pos) (cR7 t):=by
 intro pins s σ H Q I hq
 refine wpAny_List_spliced (thn (h pos pins s σ H _ I hq) fun us s1 ⟨xs,H1,I1,r,z,q⟩=>⟨by rw[← r.length];exact z,?_⟩)
 have hf:H1 s1.heap.objs.size=none:=I1.hok.fresh (Nat.le_refl _)
 refine⟨.ref s1.heap.objs.size,upd H1 s1.heap.objs.size (.lst xs),I1.laid (t':=s1.toks) (fun b u e=>Heap.get?_push_of_some _ e) (Nat.le_refl _) ?_,rfl,q _ hf⟩
 exact⟨z,us,0,r,Heap.get?_push_size _ rfl⟩
end
noncomputable abbrev Sp:=List V->Hp->VK->XK->Prop
noncomputable abbrev CXT:=List Env->Hp->Shared->XK->Value->Shared->Prop
structure Env0(P:Program)(w:World)(K:PySem.W.Frag)(mg:Str->Option Value)(base:Heap)(A:Around)(outer:List Env)(s:Shared)(H:Hp):Prop where
 frames:A.frames=some outer
 mod:Mod K mg base
 bs:∀ b o,base.get? b=some o->s.heap.get? b=some o/\H b=none
 bsz:base.objs.size<=s.heap.objs.size
 funs:s.heap.FunFrames base outer
 frf:∀ b∈frs outer,H b=none
 hok:HOk P w H s.heap
 bare:AllBare s.gens
noncomputable def CE(outer:List Env)(P:Program)(w:World)(H:Hp)(s:Shared)(Q:VK)(u:Value)(s':Shared):Prop:=
 ∃ v H',s'.os=s.os/\AllBare s'.gens/\Un (frs outer) [] H H' s.heap s'.heap/\HOk P w H' s'.heap/\eR v u/\Q v H'
noncomputable def CR(CX:CXT)(outer:List Env)(P:Program)(w:World)(H:Hp)(s:Shared)(Q:VK)(E:XK)(r:Result)(s':Shared):Prop:=
 match r with
 | .ok (.ret u)=>CE outer P w H s Q u s'
 | .ok _=>False
 | .error e=>CX outer H s E e s'
structure FnOk(P:Program)(w:World)(K:PySem.W.Frag)(mg:Str->Option Value)(base:Heap)(CX:CXT)(k:Nat)(f:Addr)(fd:FuncData)(ps:List Str)(sp:Sp):Prop where
 len:∀ vs H Q E,sp vs H Q E->vs.length=ps.length
 run:∀ (A:Around) (outer:List Env) (s:Shared) (H:Hp) (args:Args) (us:List Value) (vs:List V) (Q:VK) (E:XK),Room k A->Env0 P w K mg base A outer s H->BindsTo s fd args (ps.zip us)->cO vs us->sp vs H Q E ->
  codeAny (model P w) A (.call (.ref f) args) (CR CX outer P w H s Q E) s
theorem FnOk.imp{P:Program}{w:World}{K:PySem.W.Frag}{mg:Str->Option Value}{base:Heap}{CX:CXT}{k:Nat}{f:Addr}{fd:FuncData}{ps:List Str}{sp sp':Sp}(F:FnOk P w K mg base CX k f fd ps sp)
  (h:∀ vs H Q E,sp' vs H Q E->sp vs H Q E):FnOk P w K mg base CX k f fd ps sp':=
 ⟨fun vs H Q E q=>F.len vs H Q E (h _ _ _ _ q),fun A outer s H args us vs Q E hr he hb hv hs=>F.run A outer s H args us vs Q E hr he hb hv (h _ _ _ _ hs)⟩
section
variable{X:Cx}{pins:List (Addr×Obj)}{σ:St}{H:Hp}{s s':Shared}
theorem Inv.env0(I:Inv X pins σ H s):Env0 X.prog X.w X.K X.mg X.base X.A X.stack s H:=
 ⟨I.ok.frames,I.ok.mod,I.bs,Nat.le_trans I.ok.bsz I.sz,I.stack,I.stkFree,I.hok,I.bare⟩
theorem Inv.after{Q:VK}{u:Value}(I:Inv X pins σ H s)(h:CE X.stack X.prog X.w H s Q u s'):EP X pins σ Q u s':=by
 obtain⟨v,H',os,bare,un,hok,r,q⟩:=h
 obtain⟨hh,g,d,t,os'⟩:=s'
 obtain rfl:os'=s.os:=os
 exact⟨v,H',I.call (h':=hh) (g':=g) (d':=d) (t':=t) (ch:=[]) un hok bare (fun b z=>absurd z (by simp)),r,q⟩
end
noncomputable def zR(sp:Sp)(dvs:List V)(E:XK)(t:TA):TE:=fun σ H Q=>t σ H fun vs H1=>sp (vs++dvs) H1 Q E
noncomputable def fS(K:PySem.W.Frag)(fd:FuncData)(ps:List Str)(ds:List Value):Prop:=
 ∀ (s:Shared) (us:List Value),K.In s.heap->(us++ds).length=ps.length->BindsTo s fd ⟨us,[]⟩ (ps.zip (us++ds))
theorem fS.all{K:PySem.W.Frag}{fd:FuncData}{ps:List Str}(h:∀ us:List Value,us.length=ps.length->bindArgs fd ⟨us,[]⟩=pure (ps.zip us)):fS K fd ps []:=fun s us _ hl=>by
 rw[List.append_nil]at hl ⊢
 exact .of_eq (h us hl)
noncomputable def aE8(CX:CXT)(X:Cx)(E:XK):Prop:=∀ (pins:List (Addr×Obj)) (σ:St) (H:Hp) (s:Shared) (e:Value) (s':Shared),Inv X pins σ H s->CX X.stack H s E e s'->X.xe e s'
section
variable{X:Cx}{CX:CXT}{k:Nat}{f C:Addr}{fd:FuncData}{ps:List Str}{sp:Sp}{dvs:List V}{ds:List Value}{E:XK}{x m:Str}{p pos apos:Pos}{e o:Expr}{es:List Expr}{ta:TE}{t:TA}
theorem cB3{pins:List (Addr×Obj)}{σ:St}{H:Hp}{s:Shared}{Q:VK}{us:List Value}{vs:List V}(F:FnOk X.prog X.w X.K X.mg X.base CX k f fd ps sp)(hr:Room k X.A)(hb:fS X.K fd ps ds)(hd:cO dvs ds)(hx:aE8 CX X E)
  (I:Inv X pins σ H s) (r:cO vs us) (h:sp (vs++dvs) H Q E):wpAny (model X.prog X.w) X.A (call (.ref f) us) (EP X pins σ Q) X.xe s:=by
 have r2:cO (vs++dvs) (us++ds):=r.append hd
 have hl:(us++ds).length=ps.length:=by rw[← r2.length];exact F.len _ _ _ _ h
 refine wpAny_call (codeAny_mono (F.run X.A X.stack s H ⟨us,[]⟩ (us++ds) (vs++dvs) Q E hr I.env0 (hb s us I.kIn hl) r2 h) fun r s' hq=>?_)
 cases r with
 | error e=>exact hx pins σ H s e s' I hq
 | ok fl=>
   cases fl with
   | ret u=>exact I.after hq
   | next=>exact False.elim hq
   | brk=>exact False.elim hq
   | cont=>exact False.elim hq
theorem aJ(F:FnOk X.prog X.w X.K X.mg X.base CX k f fd ps sp)(hr:Room k X.A)(hg:Gl X x)(hm:X.mg x=some (.ref f))(hk:PySem.W.keepIn X.K (.ref f)=true)(hb:fS X.K fd ps ds)(hd:cO dvs ds)(hx:aE8 CX X E)
  (ha:PA X (e::es) t) (hdb:(x==("__debug__":Str))=false:=by decide) (he:starEach (e::es) X.env=(false,eval e X.env)::starEach es X.env:=by rfl) (hpl:(backTo pos (starEach es X.env)).any (·.1)=false:=by rfl) :
  PE X (.Call (.Name x p) (e::es) [] pos) (zR sp dvs E t):=by
 intro pins s σ H Q I h
 refine wpAny_Call_Name_kw (bM5 I hg hm ?_ hdb)
 refine PySem.W.callWith_K (h₀:=X.base) I.ok.mod.kin hk (thn (ha pos pins s σ H _ I h) fun us s1 ⟨vs,H1,I1,r,q⟩=>⟨I1.kIn,?_⟩) he hpl
 exact cB3 F hr hb hd hx I1 r q
end
noncomputable def PK(X:Cx)(kws:List Keyword)(t:TA):Prop:=
 ∀ (pos:Pos) (pins:List (Addr×Obj)) (s:Shared) (σ:St) (H:Hp) (Q:List V->Hp->Prop),Inv X pins σ H s->t σ H Q->wpAny (model X.prog X.w) X.A (evalAll ((backToKw pos (keywordEach kws X.env)).map (·.2))) (AP X pins σ Q) X.xe s
section
variable{X:Cx}{CX:CXT}{k:Nat}{f C:Addr}{fd:FuncData}{ps ks:List Str}{sp:Sp}{E:XK}{x m:Str}{p pos apos kpos:Pos}{e o:Expr}{es:List Expr}{kws:List Keyword}{te ta:TE}{t tk:TA}{nm:Option Str}
variable{g:List Value->List Value->List Value}{gV:List V->List V->List V}
end
structure FnScope(N P:List Str)(sc:Scope):Prop where
 kind:sc.kind=.function
 co:sc.isCoroutine=false
 gen:sc.isGenerator=false
 nd:N.Nodup
 pre:N.take P.length=P
 par:∀ x∈P,sc.names.lookup x=some .local\/sc.names.lookup x=some .cell
 nofree:∀ y∈sc.names,y.2≠.free
theorem rZ{kindOf:Str->Option NameKind}{x:Str}:∀ {binds:List (Str×Value)} {m:Str->Option Value},(∀ v,(x,v)∉binds)->bindL kindOf binds m x=m x
 | [],_,_=>rfl
 | (n,v)::r,m,h=>by
   unfold bindL
   rw[rZ fun w hw=>h w (List.mem_cons_of_mem _ hw)]
   split
   ·have:x≠n:=by rintro rfl;exact h v List.mem_cons_self
    simp[this]
   ·rfl
theorem sA{kindOf:Str->Option NameKind}{x:Str}:∀ {binds:List (Str×Value)} {m:Str->Option Value},(∀ v,(x,v)∉binds)->bindC kindOf binds m x=m x
 | [],_,_=>rfl
 | (n,v)::r,m,h=>by
   unfold bindC
   rw[sA fun w hw=>h w (List.mem_cons_of_mem _ hw)]
   split
   ·rfl
   ·have:x≠n:=by rintro rfl;exact h v List.mem_cons_self
    simp[this]
theorem sC{kindOf:Str->Option NameKind}{x:Str}{v:Value}:∀ {P:List Str} {vs:List Value} {i:Nat} {m:Str->Option Value},P.Nodup->P[i]? = some x->vs[i]? = some v->kindOf x=some .local ->
  bindL kindOf (P.zip vs) m x=some v
 | [],_,_,_,_,h,_,_=>by simp at h
 | _::_,[],_,_,_,_,h,_=>by simp at h
 | p::P,w::vs,0,m,nd,h1,h2,hk=>by
   simp at h1 h2;subst h1;subst h2
   show bindL kindOf ((p,w)::P.zip vs) m p=_
   unfold bindL
   rw[rZ fun v hv=>(List.nodup_cons.mp nd).1 (List.of_mem_zip hv).1,if_pos hk]
   simp
 | p::P,w::vs,i+1,m,nd,h1,h2,hk=>by
   show bindL kindOf ((p,w)::P.zip vs) m x=_
   unfold bindL
   exact sC (i:=i) (List.nodup_cons.mp nd).2 (by simpa using h1) (by simpa using h2) hk
theorem sD{kindOf:Str->Option NameKind}{x:Str}{v:Value}:∀ {P:List Str} {vs:List Value} {i:Nat} {m:Str->Option Value},P.Nodup->P[i]? = some x->vs[i]? = some v->kindOf x≠some .local ->
  bindC kindOf (P.zip vs) m x=some v
 | [],_,_,_,_,h,_,_=>by simp at h
 | _::_,[],_,_,_,_,h,_=>by simp at h
 | p::P,w::vs,0,m,nd,h1,h2,hk=>by
   simp at h1 h2;subst h1;subst h2
   show bindC kindOf ((p,w)::P.zip vs) m p=_
   unfold bindC
   rw[sA fun v hv=>(List.nodup_cons.mp nd).1 (List.of_mem_zip hv).1,if_neg hk]
   simp
 | p::P,w::vs,i+1,m,nd,h1,h2,hk=>by
   show bindC kindOf ((p,w)::P.zip vs) m x=_
   unfold bindC
   exact sD (i:=i) (List.nodup_cons.mp nd).2 (by simpa using h1) (by simpa using h2) hk
noncomputable def kH(N:List Str)(vs:List V):St:=vs.map some++List.replicate (N.length-vs.length) none
noncomputable def bH8(CX:CXT)(P:Program)(w:World)(K:PySem.W.Frag)(mg:Str->Option Value)(base:Heap)(N:List Str)(qual:Str)(scope:Scope)(f:Addr)(cd:Value)(A:Around)(outer:List Env)(s:Shared)(H:Hp)(E:XK):Cx where
 prog:=P
 w:=w
 K:=K
 mg:=mg
 base:=base
 A:=A.deeper (envOfC qual scope s.heap.objs.size f cd)
 N:=N
 s₀:=s
 H₀:=H
 env:=envOfC qual scope s.heap.objs.size f cd
 outer:=outer
 stack:=envOfC qual scope s.heap.objs.size f cd::outer
 ex:=[]
 calm:=true
 fn:=fun _=>true
 pn:=[]
 xe:=fun e s'=>wpAny (model P w) (A.deeper (envOfC qual scope s.heap.objs.size f cd)) (leaving (envOfC qual scope s.heap.objs.size f cd) e) (fun _ s''=>CX outer H s E e s'') (fun e' s''=>CX outer H s E e' s'') s'
theorem xS{sc:Scope}{n:Nat}{x:Str}(h:sc.names.lookup x=some .cell):∃ c,(cellsFrom n sc.names []).lookup x=some c:=by
 have q:=PySem.W.cellsFrom_some sc.names n [] (.inl h)
 exact Option.isSome_iff_exists.mp q
theorem aE9{CX:CXT}{P:Program}{w:World}{K:PySem.W.Frag}{mg:Str->Option Value}{base:Heap}{N ps:List Str}{qual:Str}{scope:Scope}{f:Addr}{cd:Value}{A:Around}{outer:List Env}{s s1:Shared}{H:Hp}{E:XK}{us:List Value}{vs:List V}
  (S:FnScope N ps scope) (hd:A.handled=none) (e0:Env0 P w K mg base A outer s H) (hl:vs.length=ps.length) (r:cO vs us)
  (x:InCallC s s.heap.objs.size (bindL (envOfC qual scope s.heap.objs.size f cd).kindOf (ps.zip us) fun _=>none) (cellsFrom (s.heap.objs.size+1) scope.names []) (bindC (envOfC qual scope s.heap.objs.size f cd).kindOf (ps.zip us) fun _=>none) s1) :
  Inv (bH8 CX P w K mg base N qual scope f cd A outer s H E) [] (kH N vs) H s1:=by
 have hpl:ps.length<=N.length:=by have:=congrArg List.length S.pre;rw[List.length_take]at this;omega
 obtain⟨h1,tk,rfl,hk⟩:=x.done
 have noA:∀ b:Addr,b∉(bH8 CX P w K mg base N qual scope f cd A outer s H E).ex:=fun b z=>absurd (show b∈([]:List Addr)from z) (by simp)
 refine⟨⟨e0.mod,S.kind,rfl,rfl,Nat.le_refl _,fun y z c h1 h2=>?_,fun y hy=>?_,fun y c _ h=>?_,fun _=>hd,Around.frames_deeper e0.frames,.inr ⟨rfl,rfl⟩,fun b z=>absurd z (noA b),e0.bs,e0.bsz,fun b _ _=>noA b,fun b z=>absurd z (noA b),e0.funs,e0.frf⟩,
  rfl,e0.bare,Un.kept hk,⟨_,x.toInCall.ns,fun i y v h1 h2 h3=>?_⟩,fun y c h=>⟨_,x.cell y c h⟩,e0.hok.fresh (Nat.le_refl _),fun y c h=>?_,fun p hp=>absurd (show p∈([]:List (Addr×Obj))from hp) (by simp),e0.hok.kept hk,?_⟩
 ·exact name_of_addr x.apart (PySem.mem_of_lookup h1) (PySem.mem_of_lookup h2)
 ·have hy:scope.names.lookup y=some .cell\/scope.names.lookup y=some .free:=hy
  rcases hy with hy | hy
  ·exact xS hy
  ·exact absurd rfl (S.nofree _ (PySem.mem_of_lookup hy))
 ·exact Nat.le_of_lt (x.above y c (PySem.mem_of_lookup h))
 ·have hi:i < vs.length:=by
   unfold kH at h2
   by_cases hi:i < vs.length
   ·exact hi
   ·rw[List.getElem?_append_right (by simpa using hi)]at h2
    rw[List.getElem?_replicate]at h2
    split at h2<;>cases h2
  have ha:vs[i]? = some v:=by
   unfold kH at h2
   rw[List.getElem?_append_left (by simpa using hi),List.getElem?_map]at h2
   cases e:vs[i]? with
   | none=>rw[e]at h2;cases h2
   | some a=>rw[e]at h2;cases h2;rfl
  obtain⟨u,hu,rv⟩:=r.get ha
  have hp:ps[i]? = some y:=by
   rw[← S.pre,List.getElem?_take_of_lt (by omega)];exact h1
  have ndP:ps.Nodup:=by rw[← S.pre];exact S.nd.sublist (List.take_sublist _ _)
  refine⟨u,rv,?_⟩
  rcases S.par y (List.mem_of_getElem? hp)with k | k
  ·exact .inl ⟨k,sC ndP hp hu k⟩
  ·obtain⟨c,e⟩:=xS (n:=s.heap.objs.size+1) k
   refine .inr ⟨.inl k,c,e,?_⟩
   have q:=x.cell y c e
   rw[sD ndP hp hu (by show scope.names.lookup y≠_;rw[k];decide)]at q
   exact q
 ·exact e0.hok.fresh (Nat.le_of_lt (x.above y c (PySem.mem_of_lookup h)))
 ·unfold kH
  show _=N.length
  rw[List.length_append,List.length_map,List.length_replicate]
  omega
theorem cO0{CX:CXT}{P:Program}{w:World}{K:PySem.W.Frag}{mg:Str->Option Value}{base:Heap}{k:Nat}{f:Addr}{name qual:Str}{params:Arguments}{body:List Stmt}{scope:Scope}{dV kV doc pm cdv ct oc:Value}{an od:Option Addr}
  {osl:Array (Option Value)} {N ps:List Str} {sp:Sp} (lk:K.lookup f=some ⟨oc,od,.func (PySem.W.fnOf name qual params body scope dV kV doc pm an cdv ct),osl⟩) (hcd:PySem.W.codeIn K cdv qual=true) (S:FnScope N ps scope)
  (len:∀ vs H Q E,sp vs H Q E->vs.length=ps.length)
  (hbody:∀ (A:Around) (outer:List Env) (s:Shared) (H:Hp) (vs:List V) (Q:VK) (E:XK),Room k (A.deeper (envOfC qual scope s.heap.objs.size f cdv))->sp vs H Q E ->
   ∃ t,PSs (bH8 CX P w K mg base N qual scope f cdv A outer s H E) body t/\t {nx:=fun _ H'=>Q .non H',rt:=Q} (kH N vs) H) :
  FnOk P w K mg base CX (k+1) f (PySem.W.fnOf name qual params body scope dV kV doc pm an cdv ct) ps sp:=by
 refine⟨len,fun A outer s H args us vs Q E hr e0 hb r hsp=>?_⟩
 have hl:=len _ _ _ _ hsp
 have KX:K.In s.heap:=e0.mod.kin.keeps fun b o e=>(e0.bs b o e).1
 have lim:s.heap.NoLimit:=e0.mod.nolimit.keeps fun b o e=>(e0.bs b o e).1
 have hkind:∀ y∈ps.zip us,scope.names.lookup y.1=some .local\/(scope.names.lookup y.1=some .cell/\((cellsFrom (s.heap.objs.size+1) scope.names []).lookup y.1).isSome=true):=fun⟨n,v⟩ hy=>by
  rcases S.par n (List.of_mem_zip hy).1 with q | q
  ·exact .inl q
  ·exact .inr ⟨q,PySem.W.cellsFrom_some _ _ _ (.inl q)⟩
 refine codeAny_call_function hr.depth (KX _ _ lk) rfl S.co S.gen rfl (PySem.W.codeRec_of KX hcd) (hb _ _ _ _ ?_)
 refine wpAny_newFunctionEnv_cells S.kind hkind fun env he s1 x=>?_
 subst he
 refine⟨lim.keeps x.toInCall.keep,codeAny_func ?_⟩
 obtain⟨t,ht,hq⟩:=hbody A outer s H vs Q E (hr.deeper _) hsp
 have I:Inv (bH8 CX P w K mg base N qual scope f cdv A outer s H E) [] (kH N vs) H s1:=aE9 S hr.hd e0 hl r x
 refine wpAny_mono (ht [] s1 (kH N vs) H _ I hq) (fun fl s' hs=>?_) fun e s' hs=>hs
 have fin:∀ {σ':St} {H':Hp} {v:V} {u:Value},Inv (bH8 CX P w K mg base N qual scope f cdv A outer s H E) [] σ' H' s'->eR v u->Q v H'->CE outer P w H s Q u s':=
  fun{σ' H' v u} J rv q=>⟨v,H',J.os,J.bare,J.base,J.hok,rv,q⟩
 cases fl with
 | ret u=>
   obtain⟨v,σ',H',J,rv,q⟩:=hs
   exact fin J rv q
 | next=>
   obtain⟨σ',H',J,q⟩:=hs
   exact fin (v:=V.non) (u:=Value.none) J rfl q
 | brk=>
   obtain⟨_,_,_,q⟩:=hs
   exact False.elim q
 | cont=>
   obtain⟨_,_,_,q⟩:=hs
   exact False.elim q
section
variable{X:Cx}{x:Str}{p pos:Pos}{e:Expr}{es:List Expr}{t:TA}{id T:String}{r:List V->Hp->VK->Prop}
noncomputable def tCB(r:List V->Hp->VK->Prop)(t:TA):TE:=fun σ H Q=>t σ H fun vs H1=>r vs H1 Q
theorem aZ(hc:iT X (.builtin id) r)(hg:Gl X x)(hm:X.mg x=none)(hv:bootBuiltins x=some (.builtin id))(ha:PA X (e::es) t)(hn:x≠"__name__":=by decide)(hdb:(x==("__debug__":Str))=false:=by decide)
  (he:starEach (e::es) X.env=(false,eval e X.env)::starEach es X.env:=by rfl) (hpl:(backTo pos (starEach es X.env)).any (·.1)=false:=by rfl):PE X (.Call (.Name x p) (e::es) [] pos) (tCB r t):=by
 intro pins s σ H Q I h
 refine wpAny_Call_Name_kw (lW I hg hm hv ?_ hn hdb)
 exact PyProof.Rows.callWith_builtin1 (thn (ha pos pins s σ H _ I h) fun us s1 ⟨vs,H1,I1,r1,q1⟩=>hc pins s1 σ H1 vs us Q I1 r1 q1) he hpl
theorem cI(hc:iT X (.type T) r)(hg:Gl X x)(hm:X.mg x=none)(hv:bootBuiltins x=some (.type T))(ha:PA X (e::es) t)(hn:x≠"__name__":=by decide)(hdb:(x==("__debug__":Str))=false:=by decide)
  (he:starEach (e::es) X.env=(false,eval e X.env)::starEach es X.env:=by rfl) (hpl:(backTo pos (starEach es X.env)).any (·.1)=false:=by rfl):PE X (.Call (.Name x p) (e::es) [] pos) (tCB r t):=by
 intro pins s σ H Q I h
 refine wpAny_Call_Name_kw (lW I hg hm hv ?_ hn hdb)
 exact PyProof.Rows.callWith_type1 (thn (ha pos pins s σ H _ I h) fun us s1 ⟨vs,H1,I1,r1,q1⟩=>hc pins s1 σ H1 vs us Q I1 r1 q1) he hpl
end
end L2
namespace HT
open PySem PyProof.Rows
section
open PySem.SeqAt
open PySem.AutoSeq1 (wpAny_loadPart')
open PySem.MeetsSeq PySem.MeetsSeq2 PySem.MeetsSeq3
end
section
variable{prog:Program}{w:World}{A:Around}{E:Value->Shared->Prop}{s:Shared}
theorem cat_tup{t b:Addr}{vs ws:List Value}{Q:Value->Shared->Prop}(ht:IsTup s.heap t vs.toArray)(hb:IsTup s.heap b ws.toArray)(hv:vs≠[])
  (h1:ws=[]->Q (.ref t) s) (h2:ws≠[]->Q (.ref s.heap.objs.size) {s with heap:=s.heap.push {cls:=.type "tuple",data:=.seq (vs++ws).toArray}})
  (hsz:vs.length+ws.length<=sizeLine):wpAny (model prog w) A (binaryOp .Add (.ref t) (.ref b)) Q E s:=by
 obtain⟨⟨cls,dd,data,sl⟩,ho,hc,n,hd⟩:=id ht
 obtain⟨⟨cls2,dd2,data2,sl2⟩,ho2,hc2,n2,hd2⟩:=id hb
 simp only at hc hd hc2 hd2
 subst hc hd hc2 hd2
 have e:vs.toArray++ws.toArray=(vs++ws).toArray:=by simp
 by_cases hw:ws=[]
 ·exact concat_meets ⟨_,ho,rfl⟩ ⟨_,ho2,rfl⟩ noFill_tuple_add seq_tuple_add PySem.F.slot_tuple_add PySem.F.entry_tuple_add (PySem.F.args_tuple_add_2 _ _)
   (tuple_addW1 t b vs.toArray ws.toArray n n2 dd dd2 sl sl2 (by simpa using hv) (by simp[hw])) ⟨ho,ho2,h1 hw⟩
 ·refine concat_meets ⟨_,ho,rfl⟩ ⟨_,ho2,rfl⟩ noFill_tuple_add seq_tuple_add PySem.F.slot_tuple_add PySem.F.entry_tuple_add (PySem.F.args_tuple_add_2 _ _)
   (tuple_addW2 t b vs.toArray ws.toArray n n2 dd dd2 sl sl2 (by simpa using hv) (by simpa using hw) (by rw[List.size_toArray,List.size_toArray];exact hsz)) ⟨ho,ho2,?_⟩
  rw[e]
  exact h2 hw
noncomputable def sIx(n d:Nat):Option Int->Nat
 | none=>d
 | some v=>if v < 0 then(v+(n:Int)).toNat else min v.toNat n
theorem sIx_none(n d:Nat):sIx n d none=d:=rfl
theorem sIx_nat(n d k:Nat):sIx n d (some (k:Int))=min k n:=by
 show(if(k:Int) < 0 then((k:Int)+(n:Int)).toNat else min (k:Int).toNat n)=min k n
 rw[if_neg (by omega),Int.toNat_natCast]
theorem cB4(n d:Nat)(hd:d<=n)(o:Option Int):sIx n d o<=n:=by
 cases o with
 | none=>exact hd
 | some v=>
   show(if v < 0 then(v+(n:Int)).toNat else min v.toNat n)<=n
   by_cases hv:v < 0
   ·rw[if_pos hv];omega
   ·rw[if_neg hv];exact Nat.min_le_right _ _
theorem aF0(v:Int)(n d:Nat):(if v < 0 then max (v+(n:Int)) 0 else min v (n:Int))=((sIx n d (some v):Nat):Int):=by
 show(if v < 0 then max (v+(n:Int)) 0 else min v (n:Int))=(((if v < 0 then(v+(n:Int)).toNat else min v.toNat n):Nat):Int)
 by_cases hv:v < 0
 ·simp only[if_pos hv];omega
 ·simp only[if_neg hv];omega
theorem zS(lo hi:Option Int)(n:Nat):Builtin.Slice.sliceAdjust lo hi 1 (n:Int)=(((sIx n 0 lo:Nat):Int),((sIx n n hi:Nat):Int)):=by
 have h1:¬ ((1:Int) < 0):=by omega
 unfold Builtin.Slice.sliceAdjust
 simp only[h1,if_false]
 refine Prod.ext ?_ ?_
 ·cases lo with
  | none=>rfl
  | some v=>exact aF0 v n 0
 ·cases hi with
  | none=>rfl
  | some v=>exact aF0 v n n
theorem zT(i j:Nat):Builtin.Slice.slicePlaces (i:Int) (j:Int) 1=j-i:=by
 unfold Builtin.Slice.slicePlaces
 have h1:(1:Int) > 0:=by omega
 simp only[h1,if_true,Int.ediv_one]
 split<;>omega
theorem pI{v:Value}{o:Option Int}{Q:Option Int->Shared->Prop}(p:IsPart v o)(h:Q o s):wpAny (model prog w) A (Builtin.Slice.slicePartIndex v) Q E s:=by
 cases p with
 | none=>exact slicePart_none h
 | int i t=>exact slicePart_int h
theorem iN{sl:Addr}{vl vu:Value}{lo hi:Option Int}{n:Nat}{Q:Int×Int×Nat->Shared->Prop}(hs:s.heap.IsSliceOf sl vl vu .none)(pl:IsPart vl lo)(pu:IsPart vu hi)
  (h:Q (((sIx n 0 lo:Nat):Int),1,sIx n n hi-sIx n 0 lo) s):wpAny (model prog w) A (Builtin.Slice.sliceApplied (.ref sl) (pure (n:Int))) Q E s:=by
 obtain⟨os,hos,hcs,hds⟩:=id hs
 unfold Builtin.Slice.sliceApplied Builtin.Slice.sliceFields
 refine wpAny_bind (wpAny_bind (wpAny_field hos hds (x:=vl) rfl (wpAny_bind (wpAny_field hos hds (x:=vu) rfl (wpAny_bind (wpAny_field hos hds (x:=.none) rfl (wpAny_pure ?_)))))))
 refine wpAny_bind (slicePart_none ?_)
 show wpAny _ _ (if((1:Int)==0)=true then _ else _) _ _ s
 rw[if_neg (by decide)]
 refine wpAny_bind (pI pl (wpAny_bind (pI pu (wpAny_bind (wpAny_pure ?_)))))
 show wpAny _ _ (match Builtin.Slice.sliceAdjust lo hi 1 (n:Int)with | (lo,hi)=>pure (lo,(1:Int),Builtin.Slice.slicePlaces lo hi 1)) _ _ s
 rw[zS lo hi n]
 show wpAny _ _ (pure (((sIx n 0 lo:Nat):Int),(1:Int),Builtin.Slice.slicePlaces ((sIx n 0 lo:Nat):Int) ((sIx n n hi:Nat):Int) 1)) _ _ s
 rw[zT]
 exact wpAny_pure h
theorem bB2(xs:Array Value)(i k:Nat):((List.range k).filterMap fun(m:Nat)=>xs[((i:Int)+(m:Int)*1).toNat]?).toArray=((xs.toList.drop i).take k).toArray:=by
 have e:(fun(m:Nat)=>xs[((i:Int)+(m:Int)*1).toNat]?)=fun m=>xs[i+m]?:=by
  funext m
  have:((i:Int)+(m:Int)*1).toNat=i+m:=by omega
  rw[this]
 rw[e]
 have:=pick_run xs i k
 rw[List.filterMap_map]at this
 have e2:((fun x=>xs[x]?) ∘ fun x=>i+x)=fun m=>xs[i+m]?:=rfl
 rw[e2]at this
 rw[this]
theorem getItem_tuple_cut{t sl:Addr}{items:Array Value}{vl vu:Value}{lo hi:Option Int}{Q:Value->Shared->Prop}(ht:IsTup s.heap t items)(hs:s.heap.IsSliceOf sl vl vu .none)(pl:IsPart vl lo)(pu:IsPart vu hi)
  (hw:¬ (sIx items.size 0 lo=0/\sIx items.size items.size hi=items.size))
  (h:Q (.ref s.heap.objs.size) {s with heap:=s.heap.push {cls:=.type "tuple",data:=.seq ((items.toList.drop (sIx items.size 0 lo)).take (sIx items.size items.size hi-sIx items.size 0 lo)).toArray}})
  (hsz:items.size<=sizeLine):wpAny (model prog w) A (getItem (.ref t) (.ref sl)) Q E s:=by
 have htake:sizeOk (.seq ((items.toList.drop (sIx items.size 0 lo)).take (sIx items.size items.size hi-sIx items.size 0 lo)).toArray):=by
  show((items.toList.drop (sIx items.size 0 lo)).take (sIx items.size items.size hi-sIx items.size 0 lo)).toArray.size<=sizeLine
  rw[List.size_toArray,List.length_take,List.length_drop,Array.length_toList]
  omega
 have hj:sIx items.size items.size hi<=items.size:=cB4 _ _ (Nat.le_refl _) hi
 obtain⟨os,hos,hcs,hds⟩:=id hs
 have hTs:s.TypeIs (.ref sl) "slice":=⟨os,hos,hcs⟩
 unfold getItem
 try with_reducible refine wpAny_holding ?_
 first | refine wpAny_bind (wpAny_pure ?_) | skip
 refine wpAny_bind (wpAny_sequenceKey ht.typeIs (by decide) ?_)
 refine wpAny_bind (wpAny_callSpecial?_slot (name:=Str.ofString "__getitem__") ht.typeIs PyProof.Rows.slot_tuple_getitem
  (wpAny_call_entry PyProof.Rows.slot_tuple_getitem ht.typeIs entry_tuple_getitem ?_ (args_tuple_getitem _ _)))
 show wpAny _ _ (Builtin.Tuple.tupleItemsOf (.ref t) >>= _) _ _ s
 refine wpAny_bind (tupleItemsOf_ ht ?_)
 refine wpAny_bind (wpAny_typeOf hTs ?_)
 rw[if_pos (by decide)]
 refine wpAny_bind (iN hs pl pu ?_)
 have hno:¬ ((((sIx items.size 0 lo:Nat):Int)==0&&(1:Int)==1&&(sIx items.size items.size hi-sIx items.size 0 lo)==items.size)=true):=by
  intro q
  rw[Bool.and_eq_true,Bool.and_eq_true]at q
  have q1:((sIx items.size 0 lo:Nat):Int)=0:=eq_of_beq q.1.1
  have q2:sIx items.size items.size hi-sIx items.size 0 lo=items.size:=eq_of_beq q.2
  exact hw ⟨by omega,by omega⟩
 show wpAny _ _ (if(((sIx items.size 0 lo:Nat):Int)==0&&(1:Int)==1&&(sIx items.size items.size hi-sIx items.size 0 lo)==items.size)=true then _ else _) _ _ s
 rw[if_neg hno,bB2]
 first
  | exact wpAny_bind (m:=Builtin.Tuple.tupleExact _) (wpAny_newObj_type (wpAny_pure ⟨_,rfl,wpAny_pure h⟩) htake)
  | exact wpAny_bind (m:=Builtin.Tuple.tupleExact _) (wpAny_newObj_type (wpAny_bind (wpAny_pure (wpAny_pure ⟨_,rfl,wpAny_pure h⟩))) htake)
  | exact wpAny_bind (wpAny_bind (m:=Builtin.Tuple.tupleExact _) (wpAny_newObj_type (wpAny_pure (wpAny_pure ⟨_,rfl,wpAny_pure h⟩)) htake))
  | exact wpAny_bind (wpAny_bind (m:=Builtin.Tuple.tupleExact _) (wpAny_newObj_type (wpAny_pure ⟨_,rfl,wpAny_pure h⟩) htake))
end
end HT
namespace L2
open PySem PySem.Spec PyProof.Rows
noncomputable abbrev TO:=St->Hp->(Option Int->Hp->Prop)->Prop
noncomputable def PO(X:Cx)(e:Option Expr)(t:TO):Prop:=
 ∀ (pins:List (Addr×Obj)) (s:Shared) (σ:St) (H:Hp) (Q:Option Int->Hp->Prop),Inv X pins σ H s->t σ H Q ->
   wpAny (model X.prog X.w) X.A (evalPart e X.env) (fun u s'=>∃ o H',Inv X pins σ H' s'/\IsPart u o/\Q o H') X.xe s
noncomputable def aF1:TO:=fun _ H Q=>Q none H
noncomputable def cB5(t:TE):TO:=fun σ H Q=>t σ H fun x H1=>∃ i,x=.int i/\Q (some i) H1
section
variable{X:Cx}{e:Expr}{te:TE}{lo hi:Option Expr}{tl th:TO}{pos p2:Pos}
theorem bN4:PO X none aF1:=by
 intro pins s σ H Q I h
 rw[evalPart_none]
 exact wpAny_pure ⟨none,H,I,.none,h⟩
theorem bN5(h:PE X e te):PO X (some e) (cB5 te):=by
 intro pins s σ H Q I hw
 rw[evalPart_some]
 refine thn (h pins s σ H _ I hw) fun u s1 ⟨x,H1,I1,r1,q1⟩=>?_
 obtain⟨i,rfl,q⟩:=q1
 obtain⟨t,rfl⟩:=r1
 exact⟨some i,H1,I1,.int i t,q⟩
noncomputable def SlR(X:Cx)(r:V->Option Int->Option Int->Hp->VK->Prop):Prop:=
 ∀ (pins:List (Addr×Obj)) (s:Shared) (σ:St) (H:Hp) (x:V) (v vl vu:Value) (lo hi:Option Int) (sl:Addr) (Q:VK),Inv X pins σ H s->eR x v->s.heap.IsSliceOf sl vl vu .none->IsPart vl lo->IsPart vu hi->r x lo hi H Q ->
   ∃ T id,typeLookup (.type T) "__getitem__"=pure (some (.builtin id))/\s.TypeIs v T/\wpAny (model X.prog X.w) X.A (getItem v (.ref sl)) (EP X pins σ Q) X.xe s
noncomputable def tSl(r:V->Option Int->Option Int->Hp->VK->Prop)(te:TE)(tl th:TO):TE:=fun σ H Q=>te σ H fun x H1=>tl σ H1 fun l H2=>th σ H2 fun u H3=>r x l u H3 Q
theorem bB3{r:V->Option Int->Option Int->Hp->VK->Prop}(hr:SlR X r)(he:PE X e te)(hl:PO X lo tl)(hu:PO X hi th):PE X (.Subscript e (.Slice lo hi none p2) pos) (tSl r te tl th):=by
 intro pins s σ H Q I h
 refine Subscript_ (thn (he pins s σ H _ I h) fun v s1 ⟨x,H1,I1,r1,q1⟩=>?_)
 refine wpAny_Slice (thn (hl pins s1 σ H1 _ I1 q1) fun vl s2 ⟨l,H2,I2,pl,q2⟩=>thn (hu pins s2 σ H2 _ I2 q2) fun vu s3 ⟨u,H3,I3,pu,q3⟩=>?_)
 rw[evalPart_none]
 refine wpAny_pure ?_
 have I4:Inv X pins σ H3 {s3 with heap:=s3.heap.push {cls:=.type "slice",data:=.fields #[vl,vu,.none]}}:=I3.kept (t':=s3.toks) fun b ob q=>Heap.get?_push_of_some _ q
 obtain⟨T,id,hT,ht,hg⟩:=hr pins {s3 with heap:=s3.heap.push {cls:=.type "slice",data:=.fields #[vl,vu,.none]}} σ H3 x v vl vu l u s3.heap.objs.size Q I4 r1 (Heap.IsSliceOf.new ..) pl pu q3
 show wpAny (model X.prog X.w) X.A (subscriptTail e (.Slice lo hi none p2) v (.ref s3.heap.objs.size)) (EP X pins σ Q) X.xe {s3 with heap:=s3.heap.push {cls:=.type "slice",data:=.fields #[vl,vu,.none]}}
 exact tail_any (ops:=[.ref s3.heap.objs.size,v]) ht hT hg (by with_unfolding_all rfl)
noncomputable def uJ(xs:List V)(lo hi:Option Int):List V:=(xs.drop (HT.sIx xs.length 0 lo)).take (HT.sIx xs.length xs.length hi-HT.sIx xs.length 0 lo)
theorem nG(xs:List V)(lo hi:Option Int):(uJ xs lo hi).length<=xs.length:=by
 unfold uJ
 rw[List.length_take,List.length_drop]
 omega
noncomputable def cT5(K:PySem.W.Frag):V->Option Int->Option Int->Hp->VK->Prop:=fun x lo hi H Q=>∃ a xs,x=.ref a/\SqT K H a xs /\
 ¬ (HT.sIx xs.length 0 lo=0/\HT.sIx xs.length xs.length hi=xs.length)/\∀ p,H p=none->Q (.ref p) (upd H p (.tup (uJ xs lo hi)))
theorem cB6:SlR X (cT5 X.K):=by
 intro pins s σ H x v vl vu lo hi sl Q I rx hs pl pu h
 obtain⟨a,xs,rfl,hx,hw,q⟩:=h
 cases rx
 obtain⟨its,r,ht,hz⟩:=I.tuple hx
 have hlen:its.toArray.size=xs.length:=by rw[List.size_toArray];exact r.length.symm
 refine⟨"tuple",_,PyProof.Rows.slot_tuple_getitem.lookup,ht.typeIs,?_⟩
 refine HT.getItem_tuple_cut ht hs pl pu (by rw[hlen];exact hw) ?_ (by rw[hlen];exact hz)
 rw[hlen]
 refine⟨.ref s.heap.objs.size,_,I.laid (t':=s.toks) (o:=.tup (uJ xs lo hi)) (fun b ob q=>Heap.get?_push_of_some _ q) (Nat.le_refl _) ?_,rfl,q _ (I.hok.fresh (Nat.le_refl _))⟩
 exact⟨Nat.le_trans (nG xs lo hi) hz,_,(r.drop (HT.sIx xs.length 0 lo)).take (HT.sIx xs.length xs.length hi-HT.sIx xs.length 0 lo),IsTup.new _ _,⟨_,Heap.get?_push_size _ rfl,rfl⟩⟩
noncomputable def cO1(K:PySem.W.Frag):R2:=fun x y H Q=>∃ a b xs ys,x=.ref a/\y=.ref b/\SqT K H a xs/\SqT K H b ys/\xs≠[]/\xs.length+ys.length<=sizeLine /\
 (ys=[]->Q (.ref a) H)/\(ys≠[]->∀ p,H p=none->Q (.ref p) (upd H p (.tup (xs++ys))))
theorem cO.nil_iff{xs:List V}{us:List Value}(r:cO xs us):us=[]↔xs=[]:=by
 cases r with
 | nil=>simp
 | cons _ _=>simp
theorem bN6:OpR X (binaryOp .Add) (cO1 X.K):=by
 intro pins s σ H x y v u Q I rx ry h
 obtain⟨a,b,xs,ys,rfl,rfl,ha,hb,hx,hz,q1,q2⟩:=h
 cases rx
 cases ry
 obtain⟨its,r1,p1,_⟩:=I.tuple ha
 obtain⟨its2,r2,p2,_⟩:=I.tuple hb
 refine HT.cat_tup p1 p2 (fun z=>hx (r1.nil_iff.mp z)) (fun z=>⟨.ref a,H,I,rfl,q1 (r2.nil_iff.mp z)⟩) (fun z=>?_) (by rw[← r1.length,← r2.length];exact hz)
 refine⟨.ref s.heap.objs.size,_,I.laid (t':=s.toks) (o:=.tup (xs++ys)) (fun b ob q=>Heap.get?_push_of_some _ q) (Nat.le_refl _) ?_,rfl,q2 (fun w=>z (r2.nil_iff.mpr w)) _ (I.hok.fresh (Nat.le_refl _))⟩
 exact⟨by rw[List.length_append];exact hz,_,r1.append r2,IsTup.new _ _,⟨_,Heap.get?_push_size _ rfl,rfl⟩⟩
end
noncomputable def ixN(n:Nat)(i:Int):Option Nat:=if 0<=i then(if i < n then some i.toNat else none)else if -(n:Int)<=i then some (i+n).toNat else none
noncomputable def atI{α:Type}(xs:List α)(i:Int):Option α:=(ixN xs.length i).bind fun j=>xs[j]?
theorem uK{n:Nat}{i:Int}{j:Nat}(h:ixN n i=some j):seqIndex? i n=some j/\j < n /\ -(n:Int)<=i/\i < n:=by
 unfold ixN at h
 by_cases h0:0<=i
 ·rw[if_pos h0]at h
  by_cases h1:i < n
  ·rw[if_pos h1]at h
   have e:i.toNat=j:=Option.some.inj h
   exact⟨by rw[seqIndex_of h0 h1,e],by omega,by omega,h1⟩
  ·rw[if_neg h1]at h;cases h
 ·rw[if_neg h0]at h
  by_cases h1:-(n:Int)<=i
  ·rw[if_pos h1]at h
   have e:(i+n).toNat=j:=Option.some.inj h
   exact⟨by rw[seqIndex_neg (by omega) h1,e],by omega,h1,by omega⟩
  ·rw[if_neg h1]at h;cases h
theorem uL{α:Type}{xs:List α}{i:Int}{v:α}(h:atI xs i=some v):∃ j,seqIndex? i xs.length=some j/\xs[j]? = some v/\j < xs.length /\ -(xs.length:Int)<=i/\i < xs.length:=by
 unfold atI at h
 cases e:ixN xs.length i with
 | none=>rw[e]at h;cases h
 | some j=>
   rw[e]at h
   obtain⟨h1,h2,h3,h4⟩:=uK e
   exact⟨j,h1,h,h2,h3,h4⟩
theorem aF2{α:Type}{xs:List α}{j:Nat}{v:α}(h:xs[j]? = some v):atI xs (j:Int)=some v:=by
 have hj:j < xs.length:=(List.getElem?_eq_some_iff.mp h).1
 have e:ixN xs.length (j:Int)=some j:=by
  unfold ixN
  rw[if_pos (by omega),if_pos (by omega)];simp
 unfold atI;rw[e];exact h
noncomputable def aF3(b:Expr):Prop:=∀ o i,subscripted b false o i=operate [o,i] (getItem o i)
noncomputable def IxR(X:Cx)(r:R2):Prop:=
 ∀ (value slice:Expr) (pins:List (Addr×Obj)) (s:Shared) (σ:St) (H:Hp) (x y:V) (v u:Value) (Q:VK),Inv X pins σ H s->eR x v->eR y u->r x y H Q ->
   subscripted slice false v u=operate [v,u] (getItem v u)->wpAny (model X.prog X.w) X.A (subscriptTail value slice v u) (EP X pins σ Q) X.xe s
noncomputable def MtR(X:Cx)(id:String)(r:V->List V->Hp->VK->Prop):Prop:=
 ∀ (pins:List (Addr×Obj)) (s:Shared) (σ:St) (H:Hp) (x:V) (xs:List V) (v:Value) (us:List Value) (Q:VK),Inv X pins σ H s->eR x v->cO xs us->r x xs H Q ->
   wpAny (model X.prog X.w) X.A (call (.builtin id) (v::us)) (EP X pins σ Q) X.xe s
section
variable{X:Cx}{a b:Expr}{ta tb:TE}{pos:Pos}
theorem cO2{r:R2}(hr:IxR X r)(ha:PE X a ta)(hb:PE X b tb)(hs:aF3 b):PE X (.Subscript a b pos) (tOp r ta tb):=by
 intro pins s σ H Q I h
 exact Subscript_ (cN3 ha hb I h fun v u s2 x y H2 I2 rx ry q=>hr a b pins s2 σ H2 x y v u Q I2 rx ry q (hs _ _))
noncomputable def cT6(K:PySem.W.Frag):R2:=fun x y H Q=>∃ p xs i v,x=.ref p/\y=.int i/\SqL K H p xs/\atI xs i=some v/\Q v H
noncomputable def cT7(K:PySem.W.Frag):R2:=fun x y H Q=>∃ p xs i v,x=.ref p/\y=.int i/\SqT K H p xs/\atI xs i=some v/\Q v H
noncomputable def cT8:R2:=fun x y H Q=>∃ z i c,x=.str z/\y=.int i/\z.length<=sizeLine/\atI z.cps.toList i=some c/\Q (.str ⟨#[c]⟩) H
theorem bN7:IxR X (cT6 X.K):=by
 intro value slice pins s σ H x y v u Q I rx ry h hs
 obtain⟨p,xs,i,z,rfl,rfl,hq,he,q⟩:=h
 cases rx
 obtain⟨t,rfl⟩:=ry
 obtain⟨its,r,pl,hz⟩:=I.list hq
 obtain⟨j,h1,h2,h3,h4,h5⟩:=uL he
 obtain⟨w,ew,rw'⟩:=r.get h2
 have hl:=r.length
 have hn:=pH
 have fin:EP X pins σ Q w s:=⟨z,H,I,rw',q⟩
 by_cases h0:0<=i
 ·have hj:i.toNat=j:=by
   rw[seqIndex_of h0 h5]at h1
   exact Option.some.inj h1
  exact item_listR pl.isList h0 (by omega) (by rw[hj];simpa using ew) fin hs
 ·have hj:(i+(its.toArray.size:Int)).toNat=j:=by
   rw[seqIndex_neg (by omega) h4]at h1
   rw[List.size_toArray,← hl]
   exact Option.some.inj h1
  exact subscriptTail_builtinR (x:=w) pl.isList.typeIs slot_list_getitem.lookup
   (wpAny_getItem_list_neg (Q:=fun r s'=>r=w/\EP X pins σ Q r s') pl.isList (by omega) (by rw[List.size_toArray]<;>omega) (by omega) (by rw[hj];simpa using ew) ⟨rfl,fin⟩) hs
theorem cB7:IxR X (cT7 X.K):=by
 intro value slice pins s σ H x y v u Q I rx ry h hs
 obtain⟨p,xs,i,z,rfl,rfl,hq,he,q⟩:=h
 cases rx
 obtain⟨t,rfl⟩:=ry
 obtain⟨its,r,pl,hz⟩:=I.tuple hq
 obtain⟨j,h1,h2,h3,h4,h5⟩:=uL he
 obtain⟨w,ew,rw'⟩:=r.get h2
 have hl:=r.length
 have hn:=pH
 have fin:EP X pins σ Q w s:=⟨z,H,I,rw',q⟩
 exact subscriptTail_builtinR (x:=w) pl.typeIs slot_tuple_getitem.lookup
  (getItem_tuple (j:=j) (Q:=fun r s'=>r=w/\EP X pins σ Q r s') pl (by omega) (by omega) (by rw[List.size_toArray,← hl];exact h1) (by simpa using ew) ⟨rfl,fin⟩) hs
theorem cB8:IxR X cT8:=by
 intro value slice pins s σ H x y v u Q I rx ry h hs
 obtain⟨z,i,c,rfl,rfl,hz,he,q⟩:=h
 obtain⟨t,rfl⟩:=rx
 obtain⟨t',rfl⟩:=ry
 obtain⟨j,h1,h2,h3,h4,h5⟩:=uL he
 have hl:z.cps.toList.length=z.length:=by simp[Str.length]
 rw[hl]at h1 h4 h5
 have hn:=pH
 exact tail_any (typeIs_str s z t) slot_str_getitem.lookup (getItem_str (c:=c) (by
  have e1:decide (i < -(2 ^ 63:Int))=false:=decide_eq_false (by omega)
  have e2:decide (i ≥ 2 ^ 63)=false:=decide_eq_false (by omega)
  rw[e1,e2,Bool.or_false]) (by rw[h1];simpa using h2) ⟨.str ⟨#[c]⟩,H,I.tok _,⟨_,rfl⟩,q⟩) hs
theorem zU(its:List Value)(n j:Nat)(u:Value):Obj.mapSeq (·.setIfInBounds j u) {cls:=.type "list",data:=.seq its.toArray n}={cls:=.type "list",data:=.seq (its.set j u).toArray n}:=by
 simp[Obj.mapSeq]
theorem Inv.lst{pins:List (Addr×Obj)}{σ:St}{H:Hp}{s:Shared}{p:Addr}{xs:List V}(I:Inv X pins σ H s)(h:H p=some (.lst xs)) :
  ∃ (its:List Value) (n:Nat),cO xs its/\s.heap.get? p=some {cls:=.type "list",data:=.seq its.toArray n}/\xs.length<=sizeLine:=by
 obtain⟨z,its,n,r,e⟩:=I.hok p _ h
 exact⟨its,n,r,e,z⟩
theorem Inv.lstUpd{pins:List (Addr×Obj)}{σ:St}{H:Hp}{s:Shared}{p:Addr}{xs ys:List V}{its its':List Value}{n n':Nat}{f:Obj->Obj}(I:Inv X pins σ H s)(h:H p=some (.lst xs))
  (ho:s.heap.get? p=some {cls:=.type "list",data:=.seq its.toArray n}) (hf:f {cls:=.type "list",data:=.seq its.toArray n}={cls:=.type "list",data:=.seq its'.toArray n'}) (r:cO ys its') (hz:ys.length<=sizeLine) (t:Nat) :
  Inv X pins σ (upd H p (.lst ys)) {s with heap:=s.heap.update p f,toks:=t}:=by
 have e:(s.heap.update p f).get? p=some {cls:=.type "list",data:=.seq its'.toArray n'}:=by
  rw[Heap.get?_update_self f ho (by rw[hf]<;>rfl),hf]
 refine I.write (x:=p) (e:=p) (by rw[h];trivial) (.inl rfl) (fun b u hb q=>(Heap.get?_update_other _ _ (Ne.symm hb)).trans q) ⟨_,e⟩ ?_
 exact⟨hz,its',n',r,e⟩
noncomputable def aF4:V->V->V->Hp->(Hp->Prop)->Prop:=fun o i v H Q=>∃ p xs k j,o=.ref p/\i=.int k/\H p=some (.lst xs)/\ixN xs.length k=some j/\Q (upd H p (.lst (xs.set j v)))
theorem mU:cR4 X aF4:=by
 intro pins s σ H o i v ov iv u Q I ro ri rv h
 obtain⟨p,xs,k,j,rfl,rfl,hp,hj,q⟩:=h
 cases ro
 obtain⟨t,rfl⟩:=ri
 obtain⟨its,n,r,ho,hz⟩:=I.lst hp
 obtain⟨h1,h2,h3,h4⟩:=uK hj
 have hl:=r.length
 have hn:=pH
 have I':Inv X pins σ (upd H p (.lst (xs.set j v))) {s with heap:=s.heap.update p (Obj.mapSeq (·.setIfInBounds j u))}:=
  I.lstUpd hp ho (zU its n j u) (r.set rv j) (by rw[List.length_set];exact hz) s.toks
 by_cases h0:0<=k
 ·have hk:k.toNat=j:=by
   rw[seqIndex_of h0 h4]at h1
   exact Option.some.inj h1
  exact PySem.W.ki_setAt ho h0 (by omega) (by rw[List.size_toArray,← hl];exact h4) (by rw[hk];exact⟨_,I',q⟩)
 ·have hk:(k+(its.toArray.size:Int)).toNat=j:=by
   rw[seqIndex_neg (by omega) h3]at h1
   rw[List.size_toArray,← hl]
   exact Option.some.inj h1
  exact PySem.W.ki_setBack ho (by omega) (by rw[List.size_toArray,← hl];exact h3) (by omega) (by rw[hk];exact⟨_,I',q⟩)
theorem sE(lo hi:Option Int)(n:Nat):(sliceBounds lo hi none n).1=((HT.sIx n 0 lo:Nat):Int)/\(sliceBounds lo hi none n).2.1=((HT.sIx n n hi:Nat):Int)/\(sliceBounds lo hi none n).2.2=1:=by
 refine⟨?_,?_,rfl⟩
 ·cases lo with
  | none=>simp[sliceBounds,HT.sIx]
  | some i=>
    simp only[sliceBounds,HT.sIx,Option.getD_none,show(1:Int) > 0 by decide,if_true]
    by_cases h:i < 0
    ·simp only[h,if_true]<;>omega
    ·simp only[h,if_false]<;>omega
 ·cases hi with
  | none=>simp[sliceBounds,HT.sIx]
  | some i=>
    simp only[sliceBounds,HT.sIx,Option.getD_none,show(1:Int) > 0 by decide,if_true]
    by_cases h:i < 0
    ·simp only[h,if_true]<;>omega
    ·simp only[h,if_false]<;>omega
theorem qL(its:List Value)(lo hi:Option Int):slicePick its.toArray lo hi none=((its.drop (HT.sIx its.length 0 lo)).take (HT.sIx its.length its.length hi-HT.sIx its.length 0 lo)).toArray:=by
 obtain⟨h1,h2,h3⟩:=sE lo hi its.toArray.size
 unfold slicePick
 rw[h1,h2,h3]
 simp only[sliceRange_one,pick_run,List.size_toArray]<;>rfl
noncomputable def cT9(K:PySem.W.Frag):V->Option Int->Option Int->Hp->VK->Prop:=fun x lo hi H Q=>∃ a xs,x=.ref a/\SqL K H a xs/\∀ p,H p=none->Q (.ref p) (upd H p (.lst (uJ xs lo hi)))
theorem bN8:SlR X (cT9 X.K):=by
 intro pins s σ H x v vl vu lo hi sl Q I rx hs pl pu h
 obtain⟨a,xs,rfl,hx,q⟩:=h
 cases rx
 obtain⟨its,r,ht,hz⟩:=I.list hx
 have hlen:=r.length
 refine⟨"list",_,slot_list_getitem.lookup,ht.isList.typeIs,?_⟩
 refine wpAny_getItem_list_slice ht.isList hs pl pu .none (by simp) ?_ (by rw[List.size_toArray]<;>omega)
 rw[qL,← hlen]
 refine⟨.ref s.heap.objs.size,_,I.laid (t':=s.toks) (o:=.lst (uJ xs lo hi)) (fun b ob q=>Heap.get?_push_of_some _ q) (Nat.le_refl _) ?_,rfl,q _ (I.hok.fresh (Nat.le_refl _))⟩
 exact⟨Nat.le_trans (nG xs lo hi) hz,_,0,(r.drop (HT.sIx xs.length 0 lo)).take (HT.sIx xs.length xs.length hi-HT.sIx xs.length 0 lo),Heap.get?_push_size _ rfl⟩
theorem lX:iT X (.builtin "len") (fun xs H Q=>∃ p ys,xs=[.ref p]/\(SqL X.K H p ys\/SqT X.K H p ys)/\Q (.int ys.length) H):=by
 intro pins s σ H xs us Q I r h
 obtain⟨p,ys,rfl,hq,q⟩:=h
 obtain⟨u,rfl,rx⟩:=rY r
 cases rx
 have hn:=pH
 rcases hq with hq | hq
 ·obtain⟨its,r',pl,hz⟩:=I.list hq
  have hlen:=r'.length
  exact Calls.call_len_list pl.isList (by simp only[List.size_toArray]<;>omega) ⟨.int ys.length,H,I.tok _,⟨s.toks+1,by rw[List.size_toArray,hlen]⟩,q⟩
 ·obtain⟨its,r',pl,hz⟩:=I.tuple hq
  have hlen:=r'.length
  exact len_tuple pl (by simp only[List.size_toArray]<;>omega) ⟨.int ys.length,H,I.tok _,⟨s.toks+1,by rw[List.size_toArray,hlen]⟩,q⟩
theorem sF:iT X (.builtin "len") (fun xs H Q=>∃ z,xs=[.str z]/\z.length<=sizeLine/\Q (.int z.length) H):=by
 intro pins s σ H xs us Q I r h
 obtain⟨z,rfl,hz,q⟩:=h
 obtain⟨u,rfl,t,rfl⟩:=rY r
 have hn:=pH
 exact len_str (by omega) ⟨.int z.length,H,I.tok _,⟨_,rfl⟩,q⟩
theorem lY:iT X (.type "list") (fun xs H Q=>∃ p ys,xs=[.ref p]/\(SqL X.K H p ys\/SqT X.K H p ys)/\∀ l,H l=none->Q (.ref l) (upd H l (.lst ys))):=by
 intro pins s σ H xs us Q I r h
 obtain⟨p,ys,rfl,hq,q⟩:=h
 obtain⟨u,rfl,rx⟩:=rY r
 cases rx
 have fin:∀ (its:List Value),cO ys its->ys.length<=sizeLine->∀ (h':Heap) (c':Nat),(∀ b o',s.heap.get? b=some o'->h'.get? b=some o') ->
   h'.get? s.heap.objs.size=some {cls:=.type "list",dict:=none,data:=.seq its.toArray c',slots:=#[]}->EP X pins σ Q (.ref s.heap.objs.size) {s with heap:=h'}:=fun its r' hz h' c' kp e=>
  ⟨.ref s.heap.objs.size,_,I.laid (t':=s.toks) kp (Nat.le_refl _) (show dQ X.prog X.w _ h' _ (.lst ys)from⟨hz,its,c',r',e⟩),rfl,q _ (I.hok.fresh (Nat.le_refl _))⟩
 rcases hq with hq | hq
 ·obtain⟨its,r',pl,hz⟩:=I.list hq
  have hlen:=r'.length
  obtain⟨o,ho,hc,n,hd⟩:=pl.isList
  exact call_list_seq p (.inl rfl) ho hc hd (fun h' c' kp e=>fin its r' hz h' c' kp e) (by simp only[List.size_toArray]<;>omega)
 ·obtain⟨its,r',pl,hz⟩:=I.tuple hq
  have hlen:=r'.length
  obtain⟨o,ho,hc,n,hd⟩:=pl
  exact call_list_seq p (.inr rfl) ho hc hd (fun h' c' kp e=>fin its r' hz h' c' kp e) (by simp only[List.size_toArray]<;>omega)
theorem kI:iT X (.type "tuple") (fun xs H Q=>∃ p ys,xs=[.ref p]/\((SqL X.K H p ys/\∀ l,H l=none->Q (.ref l) (upd H l (.tup ys)))\/(SqT X.K H p ys/\Q (.ref p) H))):=by
 intro pins s σ H xs us Q I r h
 obtain⟨p,ys,rfl,h⟩:=h
 obtain⟨u,rfl,rx⟩:=rY r
 cases rx
 rcases h with⟨hq,q⟩ | ⟨hq,q⟩
 ·obtain⟨its,r',pl,hz⟩:=I.list hq
  have hlen:=r'.length
  refine call_tuple_list pl.isList (fun h' kp=>?_) (by simp only[List.size_toArray]<;>omega)
  have I1:Inv X pins σ H {s with heap:=h'}:=I.kept (t':=s.toks) kp
  have I2:Inv X pins σ (upd H h'.objs.size (.tup ys)) {s with heap:=h'.push {cls:=.type "tuple",data:=.seq its.toArray}}:=
   I1.laid (t':=s.toks) (fun b o e=>Heap.get?_push_of_some _ e) (Nat.le_refl _) (show dQ X.prog X.w _ _ _ (.tup ys)from⟨hz,its,r',IsTup.new _ _,⟨_,Heap.get?_push_size _ rfl,rfl⟩⟩)
  exact⟨.ref h'.objs.size,_,I2,rfl,q _ (I1.hok.fresh (Nat.le_refl _))⟩
 ·obtain⟨its,r',pl,hz⟩:=I.tuple hq
  exact call_tuple_same pl ⟨.ref p,H,I,rfl,q⟩
noncomputable def tyV(K:PySem.W.Frag)(T:String)(x:V)(H:Hp):Prop:=match x with
 | .str _=>T="str"
 | .int _=>T="int"
 | .ref p=>(T="list"/\∃ xs,SqL K H p xs)\/(T="tuple"/\∃ o,K.lookup p=some o/\o.cls=.type "tuple"/\o.dict=none) \/
   (T="dict"/\((∃ kvs,H p=some (.dK kvs))\/∃ kvs,H p=some (.dT kvs)))\/(T="set"/\∃ S n,H p=some (.set S n))
 | _=>False
theorem bH9{pins:List (Addr×Obj)}{σ:St}{H:Hp}{s:Shared}{T:String}{x:V}{v:Value}(I:Inv X pins σ H s)(r:eR x v)(ty:tyV X.K T x H) :
  s.TypeIs v T/\∀ a,v=.ref a->∃ ob,s.heap.get? a=some ob/\ob.dict=none:=by
 cases x with
 | str z=>
   obtain⟨t,rfl⟩:=r
   cases (show T="str" from ty)
   exact⟨typeIs_str s z t,fun _ e=>nomatch e⟩
 | int i=>
   obtain⟨t,rfl⟩:=r
   cases (show T="int" from ty)
   exact⟨typeIs_int s i t,fun _ e=>nomatch e⟩
 | ref p=>
   cases r
   rcases ty with⟨rfl,xs,hq⟩ | ⟨rfl,o,hk,hc,hd⟩ | ⟨rfl,hk⟩ | ⟨rfl,S,n,hk⟩
   ·obtain⟨its,_,pl,_⟩:=I.list hq
    refine⟨pl.isList.typeIs,fun a e=>?_⟩
    cases e
    obtain⟨o,n,e,c,hd,_⟩:=pl
    exact⟨o,e,hd⟩
   ·refine⟨⟨o,I.kIn p o hk,hc⟩,fun a e=>?_⟩
    cases e
    exact⟨o,I.kIn _ o hk,hd⟩
   ·have z:∃ o,s.heap.get? p=some o/\o.ExactDict:=by
     rcases hk with⟨kvs,hk⟩ | ⟨kvs,hk⟩
     ·obtain⟨_,_,_,_,o,_,_,e,ex,_⟩:=I.hok p _ hk
      exact⟨o,e,ex⟩
     ·obtain⟨_,_,_,_,o,_,_,e,ex,_⟩:=I.hok p _ hk
      exact⟨o,e,ex⟩
    obtain⟨o,e,ex⟩:=z
    refine⟨⟨o,e,ex.1⟩,fun a e2=>?_⟩
    cases e2
    exact⟨o,e,ex.2.1⟩
   ·obtain⟨o,_,_,_,e,ex,_⟩:=I.hok p _ hk
    refine⟨⟨o,e,ex.1⟩,fun a e2=>?_⟩
    cases e2
    exact⟨o,e,ex.2.1⟩
 | _=>exact False.elim ty
noncomputable def cO3(K:PySem.W.Frag)(T:String)(r:V->List V->Hp->VK->Prop)(to:TE):TE:=fun σ H Q=>to σ H fun x H1=>tyV K T x H1/\r x [] H1 Q
noncomputable def tBM(K:PySem.W.Frag)(T:String)(r:V->List V->Hp->VK->Prop)(to:TE)(t:TA):TE:=fun σ H Q=>to σ H fun x H1=>tyV K T x H1/\t σ H1 fun xs H2=>r x xs H2 Q
variable{o e:Expr}{es:List Expr}{to:TE}{t:TA}{name:Str}{apos cpos:Pos}{T id:String}{r:V->List V->Hp->VK->Prop}
theorem cB9(pa:PlainAttrs T)(slot:Slot T name id)(hty:typeOf (.builtin id)=pure (.type "method_descriptor"))(hm:MtR X id r)(ho:PE X o to)
  (hbase:attributeBase o name X.env (eval o X.env)=eval o X.env:=by rfl) (hline:(apos.endLine==cpos.line)=true:=by rfl):PE X (.Call (.Attribute o name apos) [] [] cpos) (cO3 X.K T r to):=by
 intro pins s σ H Q I h
 refine wpAny_Call_method0_late hbase hline (thn (ho pins s σ H _ I h) fun v s1 ⟨x,H1,I1,r1,ty,q1⟩=>?_)
 obtain⟨h1,h2⟩:=bH9 I1 r1 ty
 exact⟨T,id,pa,slot,hty,h1,h2,Calls.callWith_builtin rfl (PySem.evalArgs_none (hm pins s1 σ H1 x [] v [] Q I1 r1 .nil q1))⟩
theorem cO4(pa:PlainAttrs T)(slot:Slot T name id)(hty:typeOf (.builtin id)=pure (.type "method_descriptor"))(hm:MtR X id r)(ho:PE X o to)(ha:PA X (e::es) t)
  (hbase:attributeBase o name X.env (eval o X.env)=eval o X.env:=by rfl)
  (hfew:((backTo cpos (starEach (e::es) X.env)).all (fun x=>!x.1)&&(backToKw cpos (keywordEach [] X.env)).all (fun x=>x.1.isSome)
   && decide ((e::es).length+([]:List Keyword).length+(if([]:List Keyword).isEmpty then 0 else 1) < 30))=true:=by rfl)
  (hline:(apos.endLine==cpos.line)=true:=by rfl) (hs:starEach (e::es) X.env=(false,eval e X.env)::starEach es X.env:=by rfl) (hplain:(backTo cpos (starEach es X.env)).any (·.1)=false:=by rfl) :
  PE X (.Call (.Attribute o name apos) (e::es) [] cpos) (tBM X.K T r to t):=by
 intro pins s σ H Q I h
 refine wpAny_Call_method_late hbase hfew hline rfl (thn (ho pins s σ H _ I h) fun v s1 ⟨x,H1,I1,r1,ty,q1⟩=>?_)
 obtain⟨h1,h2⟩:=bH9 I1 r1 ty
 refine⟨T,id,pa,slot,hty,h1,h2,?_⟩
 have hA:=ha cpos pins s1 σ H1 _ I1 q1
 rw[hs]at hA ⊢
 refine Calls.callWith_builtin (by show(false||(backTo cpos (starEach es X.env)).any (·.1))=false;rw[hplain]<;>rfl) (Calls.evalArgs_plain ?_)
 exact thn hA fun us s2 ⟨vs,H2,I2,r2,q2⟩=>hm pins s2 σ H2 x vs v us Q I2 r1 r2 q2
end
noncomputable def MtM(X:Cx)(id:String)(r:V->List V->Hp->VK->Prop):Prop:=
 ∀ (pins:List (Addr×Obj)) (s:Shared) (σ:St) (H:Hp) (x:V) (xs:List V) (v:Value) (us:List Value) (Q:VK),Inv X pins σ H s->eR x v->cO xs us->r x xs H Q ->
   wpAny (model X.prog X.w) X.A (call (.builtin id) (v::us)) (EP X pins σ Q) X.xe s
theorem cO.one:∀ {x:V} {us:List Value},cO [x] us->∃ u,us=[u]/\eR x u
 | _,_,.cons r .nil=>⟨_,rfl,r⟩
theorem cO.zero:∀ {us:List Value},cO [] us->us=[]
 | _,.nil=>rfl
theorem cO.dropLast{xs:List V}{us:List Value}(h:cO xs us):cO xs.dropLast us.dropLast:=by
 induction h with
 | nil=>exact .nil
 | cons r t ih=>
   cases t with
   | nil=>exact .nil
   | cons q t'=>exact .cons r ih
theorem cO.eraseIdx:∀ {xs:List V} {us:List Value} (i:Nat),cO xs us->cO (xs.eraseIdx i) (us.eraseIdx i)
 | _,_,_,.nil=>.nil
 | _,_,0,.cons _ t=>t
 | _,_,i+1,.cons r t=>.cons r (cO.eraseIdx i t)
theorem cO.rep{xs:List V}{us:List Value}(h:cO xs us):∀ k:Nat,cO (List.replicate k xs).flatten (List.replicate k us).flatten
 | 0=>.nil
 | k+1=>by
   rw[List.replicate_succ,List.replicate_succ,List.flatten_cons,List.flatten_cons]
   exact cO.append h (cO.rep h k)
theorem zV{α:Type}(l:List α):l.eraseIdx (l.length-1)=l.dropLast:=by
 induction l with
 | nil=>rfl
 | cons a r ih=>
   cases r with
   | nil=>rfl
   | cons b r=>
     have e:(a::b::r).length-1=((b::r).length-1)+1:=by
      have h1:(a::b::r).length=r.length+2:=rfl
      have h2:(b::r).length=r.length+1:=rfl
      omega
     rw[e,List.eraseIdx_cons_succ,ih]
     all_goals rfl
theorem sG{α:Type}:∀ (l:List α) (i:Nat),(l.eraseIdx i).length<=l.length
 | [],_=>Nat.le_refl _
 | _::_,0=>Nat.le_succ _
 | _::r,i+1=>Nat.succ_le_succ (sG r i)
theorem sH(its:List Value):∀ (k:Nat) (acc:List Value),
  List.foldl (fun x1 x2=>x1++x2) acc.toArray (List.replicate k its.toArray)=(acc++(List.replicate k its).flatten).toArray
 | 0,acc=>by simp
 | k+1,acc=>by
   have e:acc.toArray++its.toArray=(acc++its).toArray:=by simp
   have e2:(acc++its)++(List.replicate k its).flatten=acc++(List.replicate (k+1) its).flatten:=by
    rw[List.replicate_succ,List.flatten_cons,List.append_assoc]
   rw[← e2,← sH its k (acc++its),← e,List.replicate_succ,List.foldl_cons]
section
variable{X:Cx}{pins:List (Addr×Obj)}{σ:St}{H:Hp}{s:Shared}{l b:Addr}{xs ys zs:List V}
theorem Inv.lset{its its':List Value}{n:Nat}{f:Array Value->Array Value}{t':Nat}(I:Inv X pins σ H s)(hH:H l=some (.lst xs))
  (e:s.heap.get? l=some {cls:=.type "list",data:=.seq its.toArray n}) (hf:f its.toArray=its'.toArray) (hv:cO ys its') (hz:ys.length<=sizeLine) :
  Inv X pins σ (upd H l (.lst ys)) {s with heap:=s.heap.update l (Obj.mapSeq f),toks:=t'}:=by
 have q:=PySem.IsL.update e f
 rw[hf]at q
 refine I.write (x:=l) (e:=l) (by rw[hH];exact trivial) (.inl rfl) (fun b' u hb hu=>(Heap.get?_update_other s.heap (Obj.mapSeq f) (Ne.symm hb)).trans hu) ⟨_,q⟩ ?_
 exact⟨hz,its',_,hv,q⟩
theorem Inv.lnew{its:List Value}{t':Nat}(I:Inv X pins σ H s)(hv:cO ys its)(hz:ys.length<=sizeLine) :
  Inv X pins σ (upd H s.heap.objs.size (.lst ys)) {s with heap:=s.heap.push {cls:=.type "list",data:=.seq its.toArray},toks:=t'}:=
 I.laid (fun _ _ q=>Heap.get?_push_of_some _ q) (Nat.le_refl _) ⟨hz,its,0,hv,Heap.get?_push_size _ rfl⟩
theorem Inv.fresh(I:Inv X pins σ H s):H s.heap.objs.size=none:=I.hok.fresh (Nat.le_refl _)
theorem Inv.lstM(I:Inv X pins σ H s)(hH:H l=some (.lst xs)):xs.length<=sizeLine/\∃ (its:List Value) (n:Nat),cO xs its/\xs.length=its.length/\s.heap.get? l=some {cls:=.type "list",data:=.seq its.toArray n}:=by
 obtain⟨z,its,n,r,e⟩:=I.hok l _ hH
 exact⟨z,its,n,r,r.length,e⟩
theorem qM{n:Nat}(h:n<=sizeLine):Builtin.List.listTooLong n=false:=by
 unfold Builtin.List.listTooLong
 exact decide_eq_false (by omega)
end
section
variable{X:Cx}
noncomputable def aF5:V->List V->Hp->VK->Prop:=fun x vs H Q=>∃ l xs y,x=.ref l/\vs=[y]/\H l=some (.lst xs)/\xs.length < sizeLine/\Q .non (upd H l (.lst (xs++[y])))
theorem fB:MtM X "list.append" aF5:=by
 intro pins s σ H x vs v us Q I rx rv h
 obtain⟨l,xs,y,rfl,rfl,hH,hz,q⟩:=h
 cases rx
 obtain⟨u,rfl,ru⟩:=rv.one
 obtain⟨z,its,n,r,hl,e⟩:=I.lstM hH
 refine call_meets F.slot_list_append ⟨_,e,rfl⟩ F.entry_list_append (F.args_list_append_2 _ _) (PySem.list_append l its.toArray n u (by rw[List.size_toArray];omega)) ⟨e,?_⟩
 refine⟨.non,_,I.lset (its':=its++[u]) hH e (by simp) (r.append (.cons ru .nil)) ?_,rfl,q⟩
 rw[List.length_append,List.length_singleton]
 omega
noncomputable def bN9:V->List V->Hp->VK->Prop:=fun x vs H Q=>∃ l b xs zs,x=.ref l/\vs=[.ref b]/\H l=some (.lst xs)/\H b=some (.lst zs)/\xs.length+zs.length<=sizeLine/\Q .non (upd H l (.lst (xs++zs)))
theorem cC0:MtM X "list.extend" bN9:=by
 intro pins s σ H x vs v us Q I rx rv h
 obtain⟨l,b,xs,zs,rfl,rfl,hH,hB,hz,q⟩:=h
 cases rx
 obtain⟨u,rfl,ru⟩:=rv.one
 cases ru
 obtain⟨z,its,n,r,hl,e⟩:=I.lstM hH
 obtain⟨z2,its2,n2,r2,hl2,e2⟩:=I.lstM hB
 have hsz:its.toArray.size+its2.toArray.size<=sizeLine:=by rw[List.size_toArray,List.size_toArray];omega
 have hlong:¬ (!its.toArray.isEmpty&&Builtin.List.listTooLong (its.toArray.size+its2.toArray.size))=true:=by
  rw[qM hsz,Bool.and_false]
  exact Bool.false_ne_true
 refine call_meets F.slot_list_extend ⟨_,e,rfl⟩ F.entry_list_extend (F.args_list_extend_2 _ _)
  (AutoSeq1.list_extend_list_list_0 l its.toArray n b its2.toArray n2 hlong (by rw[List.size_toArray];omega) (by omega)) ⟨e,e2,?_⟩
 refine⟨.non,_,I.lset (its':=its++its2) hH e (by simp) (r.append r2) ?_,rfl,q⟩
 rw[List.length_append]
 omega
noncomputable def cU0:V->List V->Hp->VK->Prop:=fun x vs H Q=>∃ l xs y,x=.ref l/\vs=[]/\H l=some (.lst xs)/\xs[xs.length-1]? = some y/\Q y (upd H l (.lst xs.dropLast))
theorem cC1:MtM X "list.pop" cU0:=by
 intro pins s σ H x vs v us Q I rx rv h
 obtain⟨l,xs,y,rfl,rfl,hH,hy,q⟩:=h
 cases rx
 have hus:=rv.zero
 subst hus
 obtain⟨z,its,n,r,hl,e⟩:=I.lstM hH
 obtain⟨u,hu,ru⟩:=r.get hy
 have hy':its.toArray[its.toArray.size-1]? = some u:=by
  show its.toArray[its.length-1]? = some u
  rw[← Array.getElem?_toList,← hl]
  exact hu
 refine call_meets F.slot_list_pop ⟨_,e,rfl⟩ F.entry_list_pop (F.args_list_pop_1 _) (MeetsSeq.list_pop_last l its.toArray n u hy' (by rw[List.size_toArray];omega)) ⟨e,?_⟩
 refine⟨y,_,I.lset (its':=its.dropLast) hH e ?_ r.dropLast ?_,ru,q⟩
 ·show its.toArray.eraseIdxIfInBounds (its.toArray.size-1)=its.dropLast.toArray
  rw[List.size_toArray,List.eraseIdxIfInBounds_toArray,zV]
 ·rw[List.length_dropLast]
  omega
noncomputable def bI0:V->List V->Hp->VK->Prop:=fun x vs H Q=>∃ l xs i k y,x=.ref l/\vs=[.int i]/\H l=some (.lst xs) /\ -(2 ^ 63)<=i/\i < 2 ^ 63/\seqIndex? i xs.length=some k/\xs[k]? = some y/\Q y (upd H l (.lst (xs.eraseIdx k)))
theorem bB4:MtM X "list.pop" bI0:=by
 intro pins s σ H x vs v us Q I rx rv h
 obtain⟨l,xs,i,k,y,rfl,rfl,hH,h1,h2,hk,hy,q⟩:=h
 cases rx
 obtain⟨u,rfl,ru⟩:=rv.one
 obtain⟨t,rfl⟩:=ru
 obtain⟨z,its,n,r,hl,e⟩:=I.lstM hH
 obtain⟨w,hw,rw'⟩:=r.get hy
 refine call_meets F.slot_list_pop ⟨_,e,rfl⟩ F.entry_list_pop (F.args_list_pop_2 _ _)
  (MeetsSeq.list_pop_at l its.toArray n i t k w (fitsIndex_both h1 h2) (by rw[List.size_toArray,← hl];exact hk) (by rw[← Array.getElem?_toList];exact hw) (by rw[List.size_toArray];omega)) ⟨e,?_⟩
 refine⟨y,_,I.lset (its':=its.eraseIdx k) hH e ?_ (r.eraseIdx k) ?_,rw',q⟩
 ·show its.toArray.eraseIdxIfInBounds k=(its.eraseIdx k).toArray
  rw[List.eraseIdxIfInBounds_toArray]
 ·have:=sG xs k
  omega
noncomputable def cU1:R2:=fun x y H Q=>∃ l b xs zs,x=.ref l/\y=.ref b/\H l=some (.lst xs)/\H b=some (.lst zs)/\xs.length+zs.length<=sizeLine/\∀ p,H p=none->Q (.ref p) (upd H p (.lst (xs++zs)))
theorem cC2:OpR X (binaryOp .Add) cU1:=by
 intro pins s σ H x y v u Q I rx ry h
 obtain⟨l,b,xs,zs,rfl,rfl,hH,hB,hz,q⟩:=h
 cases rx
 cases ry
 obtain⟨z,its,n,r,hl,e⟩:=I.lstM hH
 obtain⟨z2,its2,n2,r2,hl2,e2⟩:=I.lstM hB
 refine PySem.P.add_list e e2 ?_ (by rw[List.size_toArray,List.size_toArray];omega)
 have ea:its.toArray++its2.toArray=(its++its2).toArray:=by simp
 rw[ea]
 exact⟨.ref _,_,I.lnew (t':=s.toks) (r.append r2) (by rw[List.length_append];omega),rfl,q _ I.fresh⟩
theorem bO0{α:Type}(xs:List α)(k:Nat):(List.replicate k xs).flatten.length=k*xs.length:=by
 induction k with
 | zero=>simp
 | succ k ih=>rw[List.replicate_succ,List.flatten_cons,List.length_append,ih,Nat.succ_mul,Nat.add_comm]
end
section
variable{prog:Program}{w:World}{A:Around}{E:Value->Shared->Prop}{s:Shared}
set_option maxRecDepth 100000 in
end
section
variable{X:Cx}
end
end L2
namespace Att
open PySem PySem.W PySem.Calls PyProof.Rows
theorem nH{P:Params}{h:Heap}:∀ (ns:List Int) (vs:List Value),WellAll P h vs (ns.map WData.int)->IntsAre vs ns:=by
 intro ns
 induction ns with
 | nil=>
   intro vs w
   rw[List.map_nil]at w
   cases w
   exact .nil
 | cons n ns ih=>
   intro vs w
   rw[List.map_cons]at w
   cases w with
   | cons a b=>
     cases a
     exact .cons _ _ (ih _ b)
theorem aF6{l:OpenLaw}{n:Nat}(hn:l.most=some n){P:Params}{h:Heap}{args:List WData}{vals:List Value}
  (hpre:l.row.toRowW.claim.pre args=true) (hwl:WellAll P h vals args) :
  ∃ a vs ns,vals=[Value.ref a]/\args=[WData.list (ns.map WData.int)]/\h.get? a=some {cls:=.type "list",data:=.seq vs.toArray}/\IntsAre vs ns/\ns.length<=n:=by
 have hsh:WShape.hasAll [] args [.list .int]=true:=(pre_splitW hpre).1
 have hc:l.pre.holds [] {args:=args}=true:=(pre_splitW hpre).2
 obtain⟨d,r,rfl,h1,h2⟩:=hasAllW_cons hsh
 obtain rfl:=hasAllW_nil h2
 obtain⟨xs,rfl,h3⟩:=hasW_list h1
 obtain⟨ns,rfl⟩:=items_int h3
 have hlen:ns.length<=n:=by
  unfold OpenLaw.pre at hc
  have h4:(WTm.not (.lt (.lit (.int (n:Int))) (.len (.arg 0)))).holds [] {args:=[.list (ns.map .int)]}=true:=by
   have h4:=(holds_andW hc).1
   rw[hn]at h4
   exact h4
  have h5:=condW_of h4 (w_not (w_lt w_lit (w_len_list (w_arg rfl))))
  rw[List.length_map]at h5
  refine Nat.le_of_not_lt fun q=>?_
  have q':(n:Int) < ((ns.length:Nat):Int):=by omega
  first
   | (rw[decide_eq_true q']at h5;exact absurd h5 (by decide))
   | (simp at h5;omega)
 cases hwl with
 | cons w1 w2=>
   cases w2
   cases w1 with
   | list ho hall=>exact⟨_,_,ns,rfl,rfl,ho,nH ns _ hall,hlen⟩
theorem aF7(l:OpenLaw)(args:List WData):l.row.toRowW.claim.post args (.bool true) args=true:=
 postW_of (r:=l.row.toRowW) (X:=(true==true))
  (show WShape.has [] (.bool true) .bool=true by first | rfl | decide | simp[WShape.has,WShape.arms,WShape.armsAll])
  (show(WTm.eq .res (.lit (.bool true))).value [] {args:=args,res:=some (.bool true),after:=args}=some (.bool (true==true))from w_eq_bool (w_res rfl) w_lit) rfl
theorem attach_call{l:OpenLaw}{n:Nat}{q:Program}{loose:List Str}{XP:(Str->Option Value)->Heap->Prop}{YP:World->Heap->Prop}{d:DefRec}
  (hn:l.most=some n) (hdf:d.params.defaults=[])
  (call:∀ (w:World) (s₀ s₁:Shared) (mg mb:Str->Option Value) (fa:Addr) (o:Obj) (pm cd doc:Value) (a:Addr) (vs:List Value) (ns:List Int),
   Ground q loose [] XP w s₀ mg mb s₁.heap->YP w s₁.heap ->
   s₁.heap.get? fa=some o->o.data=.func (docDef d.name d.params d.body d.scope pm cd doc)->s₁.heap.CodeRec cd d.name->mg d.name=some (.ref fa) ->
   s₁.heap.get? a=some {cls:=.type "list",data:=.seq vs.toArray}->IntsAre vs ns->ns.length<=n->s₁.gens=#[] ->
   codeAny (model l.prog w) callerA (.call (.ref fa) ⟨[.ref a],[]⟩) (fun r s'=>r=.ok (.ret (.bool true))/\OldK s₁.heap s'.heap/\s'.os=s₁.os/\AllBare s'.gens) s₁) :
  WalkO q loose XP YP l.row.toRowW d [] (fun f vs=>PySem.call f vs):=by
 intro w s₀ s₁ mg mb G Y fa o pm cd doc dV kV ho hd hcd hD hmg hg args vals as hpre hlay hrd hwl hlo
 obtain rfl:dV=.none:=Dflts.none hD hdf
 obtain rfl:kV=.none:=Dflts.noKw hD
 obtain⟨a,vs,ns,rfl,rfl,hobj,hints,hlen⟩:=aF6 hn hpre hwl
 refine enter_call (codeAny_mono (call w s₀ s₁ mg mb fa o pm cd doc a vs ns G Y ho (fd_plain hd) hcd hmg hobj hints hlen hg) fun r s' hq=>?_)
 obtain⟨rfl,h2,h3,h4⟩:=hq
 exact⟨.inl ⟨.bool true,.bool true,[],rfl,fun _=>rfl,.bool true,aF7 l _,fun _=>⟨List.Pairwise.nil,fun _ hm=>(nomatch hm)⟩⟩,h2,h3,h4⟩
section
variable{prog:Program}{w:World}{A:Around}{E:Value->Shared->Prop}{s:Shared}{K:Frag}
end
end Att
namespace L2
open PySem PySem.Spec PyProof.Rows
theorem sI:∀ {vs:List Value} {ns:List Int},IntsAre vs ns->cO (ns.map V.int) vs
 | _,_,.nil=>.nil
 | _,_,.cons n t h=>.cons ⟨t,rfl⟩ (sI h)
noncomputable def cC3(H:Hp):Prop:=∀ b,H b=none\/∃ o xs,H b=some (.frz o (.lst xs))
theorem bB5{P:Program}{w:World}{K:PySem.W.Frag}{mg mb:Str->Option Value}{CX:CXT}{k:Nat}{fa a:Addr}{fd:FuncData}{x:Str}{sp:Sp}{s₁:Shared}{vs:List Value}{ns:List Int}
  (KX:K.In s₁.heap) (hns:s₁.heap.Ns mainGlobals mg) (hb:s₁.heap.Ns builtinsNs mb) (hbb:∀ x:Str,x≠"__name__"->mb x=bootBuiltins x) (hlim:s₁.heap.NoLimit) (hg:s₁.gens=#[])
  (ha:s₁.heap.get? a=some {cls:=.type "list",data:=.seq vs.toArray}) (hi:IntsAre vs ns) (hl:ns.length<=sizeLine) (hr:Room k callerA)
  (F:∀ base:Heap,K.In base->base.Ns mainGlobals mg->FnOk P w K mg base CX k fa fd [x] sp) (hbind:∀ (s:Shared) (u:Value),BindsTo s fd ⟨[u],[]⟩ [(x,u)])
  (hsp:∀ H:Hp,cC3 H->SqL K H a (ns.map V.int)->sp [.ref a] H (fun v _=>v=.bl true) fun _ _ _=>False)
  (hCX:∀ H e s',CX [] H s₁ (fun _ _ _=>False) e s'->False) :
  codeAny (model P w) callerA (.call (.ref fa) ⟨[.ref a],[]⟩) (fun r s'=>r=.ok (.ret (.bool true))/\OldK s₁.heap s'.heap/\s'.os=s₁.os/\AllBare s'.gens) s₁:=by
 have rv:=sI hi
 have lenV:=hi.length
 -- from an abstract heap in which nothing but the script may be tracked
 have core:∀ H:Hp,cC3 H->SqL K H a (ns.map V.int)->HOk P w H s₁.heap->(∀ b,H b≠none->b=a)->(H a≠none->K.lookup a=none) ->
   codeAny (model P w) callerA (.call (.ref fa) ⟨[.ref a],[]⟩) (fun r s'=>r=.ok (.ret (.bool true))/\OldK s₁.heap s'.heap/\s'.os=s₁.os/\AllBare s'.gens) s₁:=by
  intro H hO hS hok hA hK
  have base_of:∀ {b:Addr} {o:Obj},s₁.heap.get? b=some o->H b=none->(bA8 s₁.heap H).get? b=some o:=fun e n=>bA9 e n
  have noA:∀ {b:Addr} {o:Obj} {es:Array DictEntry} {ep:Nat},s₁.heap.get? b=some o->o.data=.dict es ep->H b=none:=fun{b o es ep} e d=>by
   cases q:H b with
   | none=>rfl
   | some u=>
     have e':b=a:=hA b (by rw[q];simp)
     subst e'
     rw[ha]at e;cases e
     have d':Data.seq vs.toArray _=Data.dict es ep:=d
     cases d'
  have nsK:∀ {b:Addr} {m:Str->Option Value},s₁.heap.Ns b m->(bA8 s₁.heap H).Ns b m:=fun{b m} ⟨o,es,ep,e,d,r⟩=>⟨o,es,ep,base_of e (noA e d),d,r⟩
  have hKb:K.In (bA8 s₁.heap H):=fun b o e=>base_of (KX b o e) (by
   cases q:H b with
   | none=>rfl
   | some u=>
     have e':b=a:=hA b (by rw[q];simp)
     subst e'
     rw[hK (by rw[q];simp)]at e;cases e)
  have hM:Mod K mg (bA8 s₁.heap H):=⟨hKb,nsK hns,⟨mb,nsK hb,hbb⟩,let ⟨mc,h1,h2⟩:=hlim;⟨mc,nsK h1,h2⟩⟩
  have e0:Env0 P w K mg (bA8 s₁.heap H) callerA [] s₁ H:=⟨rfl,hM,fun b o e=>bM3 e,Nat.le_of_eq (aD3 _ _),trivial,fun b hb=>absurd (show b∈([]:List Addr)from hb) (by simp),hok,.of_eq hg⟩
  refine codeAny_mono ((F _ hKb (nsK hns)).run callerA [] s₁ H ⟨[.ref a],[]⟩ [.ref a] [.ref a] _ _ hr e0 (hbind s₁ (.ref a)) (.cons rfl .nil) (hsp H hO hS)) fun r s' h=>?_
  cases r with
  | error e=>exact(hCX H e s' h).elim
  | ok fl=>
    cases fl with
    | next=>exact False.elim h
    | brk=>exact False.elim h
    | cont=>exact False.elim h
    | ret u=>
      obtain⟨v,H',os,bare,un,hok',r',q⟩:=h
      have q':v=.bl true:=q
      subst q'
      obtain rfl:u=Value.bool true:=r'
      refine⟨rfl,OldK.of_keep fun b o e=>?_,os,bare⟩
      cases q:H b with
      | none=>exact un.keep b o e q (by intro z;exact absurd (show b∈([]:List Addr)from z) (by simp)) (by simp)
      | some u=>
        rcases hO b with z | ⟨ob,xs,z⟩
        ·rw[q]at z;cases z
        ·have z2:=un.frzs b ob _ z
         obtain⟨e1,_⟩:=hok b _ z
         obtain⟨e2,_⟩:=hok' b _ z2
         rw[e]at e1;cases e1
         exact e2
 cases hk:K.lookup a with
 | some o=>
   -- the script is one of the module's own objects
   have e:=KX a o hk
   rw[ha]at e
   cases e
   refine core (fun _=>none) (fun _=>.inl rfl) (.inr ⟨_,vs.toArray,_,hk,rfl,rfl,rfl,by rw[List.size_toArray,lenV];exact hl,by simpa using rv⟩) (fun b u z=>by have z':(none:Option HO)=some u:=z;cases z') (fun b z=>absurd rfl z) fun z=>absurd rfl z
 | none=>
   refine core (fun b=>if b=a then some (.frz {cls:=.type "list",data:=.seq vs.toArray} (.lst (ns.map V.int)))else none) (fun b=>?_) (.inl (.inr ⟨{cls:=.type "list",data:=.seq vs.toArray},if_pos rfl⟩)) (fun b u z=>?_) (fun b z=>?_) fun _=>hk
   ·by_cases hb:b=a
    ·exact .inr ⟨_,_,if_pos hb⟩
    ·exact .inl (if_neg hb)
   ·by_cases hb:b=a
    ·have z':=(if_pos hb).symm.trans z
     cases z'
     subst hb
     exact⟨ha,by rw[List.length_map];exact hl,vs,_,rv,ha⟩
    ·have z':=(if_neg hb).symm.trans z
     cases z'
   ·by_cases hb:b=a
    ·exact hb
    ·exact absurd (if_neg hb) z
theorem bO1{l:PySem.W.OpenLaw}{n k:Nat}{q:Program}{loose:List Str}{XP:(Str->Option Value)->Heap->Prop}{YP:World->Heap->Prop}{d:DefRec}{K:Params->PySem.W.Frag}{CX:World->CXT}{sp:World->Sp}{x:Str}
  (hn:l.most=some n) (hn2:n<=sizeLine) (hdf:d.params.defaults=[]) (hr:Room k callerA)
  (hY:∀ (w:World) (h:Heap),YP w h->(K w.params).In h)
  (F:∀ (w:World) (mg:Str->Option Value) (fa:Addr) (h:Heap),(K w.params).In h->h.Ns mainGlobals mg->mg d.name=some (.ref fa) ->
   ∃ fd:FuncData,(∀ (s:Shared) (u:Value),BindsTo s fd ⟨[u],[]⟩ [(x,u)]) /\
     ∀ base:Heap,(K w.params).In base->base.Ns mainGlobals mg->FnOk l.prog w (K w.params) mg base (CX w) k fa fd [x] (sp w))
  (hsp:∀ (w:World) (H:Hp) (a:Addr) (ns:List Int),ns.length<=n->cC3 H->SqL (K w.params) H a (ns.map V.int)->sp w [.ref a] H (fun v _=>v=.bl true) fun _ _ _=>False)
  (hCX:∀ (w:World) (H:Hp) (s:Shared) (e:Value) (s':Shared),CX w [] H s (fun _ _ _=>False) e s'->False) :
  PySem.W.WalkO q loose XP YP l.row.toRowW d [] (fun f vs=>PySem.call f vs):=by
 refine Att.attach_call hn hdf fun w s₀ s₁ mg mb fa o pm cd doc a vs ns G Y ho hd hcd hmg hobj hints hlen hg=>?_
 have KX:=hY w _ Y
 obtain⟨fd,hb,hF⟩:=F w mg fa _ KX G.T.g hmg
 exact bB5 KX G.T.g G.T.b G.T.builtins G.T.nolimit hg hobj hints (Nat.le_trans hlen hn2) hr hF hb (fun H hO hS=>hsp w H a ns hlen hO hS) fun H e s'=>hCX w H s₁ e s'
noncomputable def uM(s:Stmt):Arguments:=match s with
 | .FunctionDef _ a _ _ _ _ _ _ _ _=>a
 | _=>{posonlyargs:=[],args:=[],vararg:=none,kwonlyargs:=[],kw_defaults:=[],kwarg:=none,defaults:=[]}
noncomputable def lI(s:Stmt):List Stmt:=match s with
 | .FunctionDef _ _ b _ _ _ _ _ _ _=>b
 | _=>[]
noncomputable def bA(s:Stmt):Scope:=match s with
 | .FunctionDef _ _ _ _ _ _ sc _ _ _=>sc
 | _=>{kind:=.function,names:=[],isGenerator:=false,isCoroutine:=false}
noncomputable abbrev CX0:CXT:=fun _ _ _ _ _ _=>False
noncomputable abbrev E0:XK:=fun _ _ _=>False
theorem bK{X:Cx}:aE8 CX0 X E0:=fun _ _ _ _ _ _ _ h=>h.elim
structure Fun(K:PySem.W.Frag)(x qual:Str)(st:Stmt)(f:Addr)(fd:FuncData):Prop where
 ex:∃ (oc:Value) (od:Option Addr) (kV doc pm:Value) (an:Option Addr) (cdv ct:Value) (osl:Array (Option Value)),
  fd=PySem.W.fnOf x qual (uM st) (lI st) (bA st) .none kV doc pm an cdv ct/\K.lookup f=some ⟨oc,od,.func fd,osl⟩/\PySem.W.codeIn K cdv qual=true
 kp:PySem.W.keepIn K (.ref f)=true
section
variable{P:Program}{w:World}{K:PySem.W.Frag}{mg:Str->Option Value}{base:Heap}
theorem Fun.ok{x qual:Str}{st:Stmt}{f:Addr}{fd:FuncData}{N ps:List Str}{k:Nat}{sp:Sp}(F:Fun K x qual st f fd)(S:FnScope N ps (bA st))(len:∀ vs H Q E,sp vs H Q E->vs.length=ps.length)
  (hbody:∀ (cdv:Value) (A:Around) (outer:List Env) (s:Shared) (H:Hp) (vs:List V) (Q:VK) (E:XK),Room k (A.deeper (envOfC qual (bA st) s.heap.objs.size f cdv))->sp vs H Q E ->
   ∃ t,PSs (bH8 CX0 P w K mg base N qual (bA st) f cdv A outer s H E).nox (lI st) t/\t {nx:=fun _ H'=>Q .non H',rt:=Q} (kH N vs) H):FnOk P w K mg base CX0 (k+1) f fd ps sp:=by
 obtain⟨oc,od,kV,doc,pm,an,cdv,ct,osl,rfl,lk,hcd⟩:=F.ex
 refine cO0 lk hcd S len fun A outer s H vs Q E hr hsp=>?_
 obtain⟨t,h,q⟩:=hbody cdv A outer s H vs Q E hr hsp
 exact⟨t,h.nox,q⟩
theorem Fun.binds{x qual:Str}{st:Stmt}{f:Addr}{fd:FuncData}{ps:List Str}(F:Fun K x qual st f fd)
  (h:∀ (kV doc pm:Value) (an:Option Addr) (cdv ct:Value) (us:List Value),us.length=ps.length->bindArgs (PySem.W.fnOf x qual (uM st) (lI st) (bA st) .none kV doc pm an cdv ct) ⟨us,[]⟩=pure (ps.zip us)):fS K fd ps []:=by
 obtain⟨oc,od,kV,doc,pm,an,cdv,ct,osl,rfl,lk,hcd⟩:=F.ex
 exact .all (h kV doc pm an cdv ct)
end
theorem cO5{A:Around}{k:Nat}(hr:Room k A):A.units+1 < cLine:=Nat.lt_of_le_of_lt (Nat.add_le_add_left (by decide:1<=64) _) hr.units
section
variable{X:Cx}
theorem pv(i:Nat){x:Str}{pos:Pos}(hN:X.N[i]? = some x:=by rfl)(hv:Vis X.env.scope x:=by first | exact Or.inl rfl | exact Or.inr (Or.inl rfl) | exact Or.inr (Or.inr rfl))(hd:(x==("__debug__":Str))=false:=by decide)
  (hcd:(x==("__classdict__":Str))=false:=by decide):PE X (.Name x pos) (aC7 i):=bZ3 hN hv hd hcd
end
theorem cO6{A B:Prop}(h:B):if false=true then A else B:=by
 rw[if_neg Bool.false_ne_true]
 exact h
theorem bI1{c A B:Prop}[Decidable c](h1:c->A)(h2:¬ c->B):if c then A else B:=by
 by_cases h:c
 ·rw[if_pos h]
  exact h1 h
 ·rw[if_neg h]
  exact h2 h
noncomputable def uN(H H':Hp):Prop:=∀ b o,H b=some o->H' b=some o
theorem uN.refl(H:Hp):uN H H:=fun _ _ h=>h
theorem zW{scope:Scope}{env:Env}(h:∀ y∈scope.names,y.2=.free->∃ c,env.cells.lookup y.1=some c) :
  ∃ cl:List (Str×Addr),closureFor scope env=pure cl/\(∀ x c,cl.lookup x=some c->env.cells.lookup x=some c)/\∀ y∈scope.names,y.2=.free->∃ c,cl.lookup y.1=some c:=by
 have key:∀ (l:List (Str×NameKind)) (acc:List (Str×Addr)),(∀ y∈l,y.2=.free->∃ c,env.cells.lookup y.1=some c)->(∀ x c,acc.lookup x=some c->env.cells.lookup x=some c) ->
   ∃ cl:List (Str×Addr),((forIn l acc fun(x:Str×NameKind) (r:List (Str×Addr))=>if(x.2==NameKind.free)=true then do let a ← cellOf env x.1;pure (ForInStep.yield ((x.1,a)::r))else pure (ForInStep.yield r)):Sem (List (Str×Addr)))=pure cl /\
     (∀ x c,cl.lookup x=some c->env.cells.lookup x=some c)/\(∀ x c,acc.lookup x=some c->∃ d,cl.lookup x=some d)/\∀ y∈l,y.2=.free->∃ c,cl.lookup y.1=some c:=by
  intro l
  induction l with
  | nil=>intro acc _ ha;exact⟨acc,rfl,ha,fun x c e=>⟨c,e⟩,fun _ hy=>nomatch hy⟩
  | cons y r ih=>
    intro acc hl ha
    obtain⟨n,k⟩:=y
    rw[List.forIn_cons]
    by_cases hk:(k==NameKind.free)=true
    ·have hk':k=.free:=by simpa using hk
     obtain⟨c,hc⟩:=hl (n,k) List.mem_cons_self hk'
     have e1:cellOf env n=pure c:=by unfold cellOf;rw[hc]
     obtain⟨cl,e,p1,p2,p3⟩:=ih ((n,c)::acc) (fun y hy=>hl y (List.mem_cons_of_mem _ hy)) (fun x d e=>by
      rw[List.lookup_cons]at e
      split at e
      ·rename_i hx
       have:x=n:=by simpa using hx
       cases e;rw[this];exact hc
      ·exact ha x d e)
     have has:∃ d,cl.lookup n=some d:=p2 n c (by rw[List.lookup_cons];simp)
     refine⟨cl,?_,p1,fun x d e=>?_,fun y hy hf=>?_⟩
     ·simp only[hk,if_true,e1]
      exact e
     ·by_cases hx:x=n
      ·subst hx;exact has
      ·exact p2 x d (by rw[List.lookup_cons];have:(x==n)=false:=by simpa using hx
                        rw[this];exact e)
     ·rcases List.mem_cons.mp hy with rfl | hy
      ·exact has
      ·exact p3 y hy hf
    ·obtain⟨cl,e,p1,p2,p3⟩:=ih acc (fun y hy=>hl y (List.mem_cons_of_mem _ hy)) ha
     refine⟨cl,?_,p1,p2,fun y hy hf=>?_⟩
     ·simp only[hk]
      exact e
     ·rcases List.mem_cons.mp hy with rfl | hy
      ·exact absurd (by simpa using hf) hk
      ·exact p3 y hy hf
 obtain⟨cl,e,p1,_,p3⟩:=key scope.names [] h (fun x c e=>nomatch e)
 refine⟨cl,?_,p1,p3⟩
 unfold closureFor
 simp only[bind_pure]
 exact e
theorem iV{α:Type}{x n:Str}{v:α}{r:List (Str×α)}(h:(x==n)=true):List.lookup x ((n,v)::r)=some v:=by rw[List.lookup_cons,h]
theorem fC{α:Type}{x n:Str}{v:α}{r:List (Str×α)}(h:(x==n)=false):List.lookup x ((n,v)::r)=List.lookup x r:=by rw[List.lookup_cons,h]
theorem bI2{scope:Scope}{env:Env}{x:Str}(h:(relabel scope env).names.lookup x=some .cell\/(relabel scope env).names.lookup x=some .free)(hc:∀ y∈scope.names,y.2≠.cell) :
  (x,NameKind.free)∈scope.names:=by
 unfold relabel at h
 dsimp only at h
 revert h hc
 generalize scope.names=l
 intro h hc
 induction l with
 | nil=>rcases h with h | h<;>cases h
 | cons y r ih=>
   obtain⟨n,k⟩:=y
   rw[List.map_cons]at h
   dsimp only at h
   have ih':=fun h=>ih h fun y hy=>hc y (List.mem_cons_of_mem _ hy)
   have hkc:k≠.cell:=hc (n,k) List.mem_cons_self
   by_cases hk:(k==NameKind.free&&env.scope.kind==.function&&env.kindOf n==some .cell)=true
   ·have hkf:k=.free:=by
     simp only[Bool.and_eq_true,beq_iff_eq]at hk
     exact hk.1.1
    rw[if_pos hk]at h
    cases hx:x==n with
    | true=>
      have hxn:x=n:=by simpa using hx
      subst hxn hkf
      exact List.mem_cons_self
    | false=>
      rw[fC hx]at h
      exact List.mem_cons_of_mem _ (ih' h)
   ·rw[if_neg hk]at h
    cases hx:x==n with
    | true=>
      have hxn:x=n:=by simpa using hx
      rw[iV hx]at h
      subst hxn
      rcases h with h | h
      ·exact absurd (Option.some.inj h) hkc
      ·rw[Option.some.inj h];exact List.mem_cons_self
    | false=>
      rw[fC hx]at h
      exact List.mem_cons_of_mem _ (ih' h)
theorem kJ{scope:Scope}{env:Env}{x:Str}(h:(relabel scope env).names.lookup x=some .cell\/(relabel scope env).names.lookup x=some .free) :
  (x,NameKind.free)∈scope.names\/scope.names.lookup x=some .cell:=by
 unfold relabel at h
 dsimp only at h
 revert h
 generalize scope.names=l
 intro h
 induction l with
 | nil=>rcases h with h | h<;>cases h
 | cons y r ih=>
   obtain⟨n,k⟩:=y
   rw[List.map_cons]at h
   dsimp only at h
   by_cases hk:(k==NameKind.free&&env.scope.kind==.function&&env.kindOf n==some .cell)=true
   ·have hkf:k=.free:=by
     simp only[Bool.and_eq_true,beq_iff_eq]at hk
     exact hk.1.1
    rw[if_pos hk]at h
    cases hx:x==n with
    | true=>
      have hxn:x=n:=by simpa using hx
      subst hxn hkf
      exact .inl List.mem_cons_self
    | false=>
      rw[fC hx]at h
      rcases ih h with z | z
      ·exact .inl (List.mem_cons_of_mem _ z)
      ·exact .inr (by rw[fC hx];exact z)
   ·rw[if_neg hk]at h
    cases hx:x==n with
    | true=>
      have hxn:x=n:=by simpa using hx
      rw[iV hx]at h
      subst hxn
      rcases h with h | h
      ·exact .inr (by rw[iV hx];exact h)
      ·rw[Option.some.inj h];exact .inl List.mem_cons_self
    | false=>
      rw[fC hx]at h
      rcases ih h with z | z
      ·exact .inl (List.mem_cons_of_mem _ z)
      ·exact .inr (by rw[fC hx];exact z)
theorem dH:∀ (names:List (Str×NameKind)) (n:Nat) (acc:List (Str×Addr)),cellsFrom n names acc=cellsFrom n names []++acc
 | [],n,acc=>rfl
 | (x,k)::r,n,acc=>by
   unfold cellsFrom
   split
   ·rw[dH r (n+1) ((x,n)::acc),dH r (n+1) [(x,n)],List.append_assoc];rfl
   ·exact dH r n acc
theorem iE:∀ (names:List (Str×NameKind)) (n:Nat) (x:Str) (c:Addr),(x,c)∈cellsFrom n names []->(x,NameKind.cell)∈names
 | [],n,x,c,h=>nomatch h
 | (y,k)::r,n,x,c,h=>by
   unfold cellsFrom at h
   split at h
   ·rename_i hk
    have hk':k=.cell:=by simpa using hk
    rw[dH]at h
    rcases List.mem_append.mp h with z | z
    ·exact List.mem_cons_of_mem _ (iE r _ x c z)
    ·have e:=List.mem_singleton.mp z
     cases e;rw[hk'];exact List.mem_cons_self
   ·exact List.mem_cons_of_mem _ (iE r _ x c h)
theorem eJ:∀ (names:List (Str×NameKind)) (n:Nat) (x:Str),(x,NameKind.cell)∈names->∃ c,(cellsFrom n names []).lookup x=some c
 | [],n,x,h=>nomatch h
 | (y,k)::r,n,x,h=>by
   have key:∀ m,(x,NameKind.cell)∈r->∃ c,(cellsFrom m r []).lookup x=some c:=fun m hm=>eJ r m x hm
   unfold cellsFrom
   split
   ·rename_i hk
    rw[dH,List.lookup_append]
    rcases List.mem_cons.mp h with z | z
    ·cases z
     cases e:(cellsFrom (n+1) r []).lookup y with
     | some c=>exact⟨c,rfl⟩
     | none=>exact⟨n,by simp⟩
    ·obtain⟨c,hc⟩:=key (n+1) z
     exact⟨c,by rw[hc];rfl⟩
   ·rename_i hk
    rcases List.mem_cons.mp h with z | z
    ·cases z;exact absurd rfl hk
    ·exact key n z
theorem bO2{M:Model}{A:Around}{E:Value->Shared->Prop}{s:Shared}{scope:Scope}{globals:Addr}{cl:List (Str×Addr)}{qual:Str}{env:Env}{Q:Env->Shared->Prop}
  (hQ:Q (newEnv scope s.heap.objs.size globals (cellsFrom (s.heap.objs.size+1) scope.names cl) qual none .none (some env) builtinsNs) {s with heap:=pushCells (s.heap.push {cls:=.type "dict",data:=.dict #[]}) scope.names}) :
  wpAny M A (newFunctionEnv scope globals cl [] qual none .none (some env)) Q E s:=by
 simp only[newFunctionEnv,Option.isSome_some,if_true]
 refine wpAny_bind (wpAny_alloc ?_)
 refine wpAny_bind (wpAny_layCells _ (fun name kind cells=>by cases hkc:kind==NameKind.cell<;>simp[hkc]) _ _ _ _ ?_)
 rw[show({s with heap:=s.heap.push {cls:=.type "dict",data:=.dict #[]}}:Shared).heap.objs.size=s.heap.objs.size+1 from Heap.size_push ..]
 refine wpAny_bind ?_
 rw[List.forIn_nil]
 exact wpAny_pure (wpAny_pure hQ)
theorem qN{scope:Scope}{env:Env}{x:Str}(h:(relabel scope env).names.lookup x=some .local):scope.names.lookup x=some .local:=by
 unfold relabel at h
 dsimp only at h
 revert h
 generalize scope.names=l
 intro h
 induction l with
 | nil=>cases h
 | cons y r ih=>
   obtain⟨n,k⟩:=y
   rw[List.map_cons]at h
   dsimp only at h
   by_cases hk:(k==NameKind.free&&env.scope.kind==.function&&env.kindOf n==some .cell)=true
   ·rw[if_pos hk]at h
    cases hx:x==n with
    | true=>rw[iV hx]at h;cases h
    | false=>rw[fC hx]at h ⊢;exact ih h
   ·rw[if_neg hk]at h
    cases hx:x==n with
    | true=>rw[iV hx]at h ⊢;exact h
    | false=>rw[fC hx]at h ⊢;exact ih h
theorem Inv.adopt{X:Cx}{pins:List (Addr×Obj)}{σ:St}{H:Hp}{s:Shared}{a:Addr}{o:HO}(I:Inv X pins σ H s)(hn:H a=none)(h1:X.s₀.heap.objs.size<=a)(h2:a≠X.env.locals)
  (h3:∀ x c,X.env.cells.lookup x=some c->c≠a) (h4:∀ p∈X.pn++pins,p.1≠a) (new:dQ X.prog X.w (upd H a o) s.heap a o):Inv X pins σ (upd H a o) s:=by
 have ne:∀ b u,H b=some u->b≠a:=fun b u e=>bL e hn
 refine⟨I.ok,I.os,I.bare,⟨I.base.keep,I.base.slot,fun b ob q n hx=>?_,I.base.there,fun b xs q=>?_,fun b ob u q=>?_,fun b ps q=>?_⟩,I.loc,I.cell,?_,fun x c e=>?_,fun p hp=>?_,fun b u e=>?_,I.len⟩
 ·rw[aK (Nat.ne_of_lt (Nat.lt_of_lt_of_le (Heap.lt_size q) h1))];exact I.base.free b ob q n hx
 ·have:=I.base.tups b xs q;rw[aK (ne b _ this)];exact this
 ·have:=I.base.frzs b ob u q;rw[aK (ne b _ this)];exact this
 ·obtain⟨m,this⟩:=I.base.tbls b ps q;exact⟨m,by rw[aK (ne b _ this)];exact this⟩
 ·rw[aK (Ne.symm h2)];exact I.free
 ·rw[aK (h3 x c e)];exact I.freeC x c e
 ·obtain⟨e,n,r⟩:=I.pin p hp
  exact⟨e,by rw[aK (h4 p hp)];exact n,r⟩
 ·by_cases hb:b=a
  ·subst hb;rw[aT]at e;cases e;exact new
  ·rw[aK hb]at e
   exact(I.hok b u e).stay (fun c v _ q=>q) (fun c q=>by rw[aK (ne c _ q)];exact q) fun c xs q=>by rw[aK (ne c _ q)];exact q
theorem uO{prog:Program}{w:World}{A:Around}{R:Result->Shared->Prop}{s:Shared}{elt target iter:Expr}{ifs:List Expr}{scope:Scope}{pos:Pos}{it acc:Value}{env:Env}(I:Nat->Shared->Prop)
  (turn:∀ n s,I n s->wpAny (model prog w) A (pyNext it) (fun r s₁=>match r with
   | none=>R (.ok .next) s₁
   | some v=>wpAny (model prog w) A (letOwnedTupleGo target it v) (fun _ s₁'=>wpAny (model prog w) A (assign target env v) (fun _ s₂=>
     wpAny (model prog w) A (forIn ifs true fun c r=>if r=true then do let ok ← isTrue c env (eval c env);pure (ForInStep.yield ok)else pure (ForInStep.yield r)) (fun ok s₃=>
      if ok=true then wpAny (model prog w) A (eval elt env) (fun x s₄=>
       wpAny (model prog w) A (call (.builtin "list.append") [acc,x]) (fun _ s₅=>∃ m,m < n/\I m s₅) (fun _ _=>False) s₄) (fun _ _=>False) s₃
      else ∃ m,m < n/\I m s₃) (fun _ _=>False) s₂) (fun _ _=>False) s₁') (fun _ _=>False) s₁) (fun _ _=>False) s)
  (n:Nat) (h:I n s) :
  codeAny (model prog w) A (.compLoop (.ListComp elt [⟨target,iter,ifs,0⟩] scope pos) 0 it acc env) R s:=by
 refine codeAny_loop rfl I (fun n s hI=>?_) n h
 show wpAny _ A ((compTurn (.ListComp elt [⟨target,iter,ifs,0⟩] scope pos) 0 it acc env).onRaise (fun x=>do noteFrame x env;theTreesLotGoes x)) _ _ s
 refine wpAny_noted ?_
 rw[compTurn_list]
 refine wpAny_bind (wpAny_standAt (wpAny_bind (wpAny_mono (turn n s hI) (fun r s₁ h₁=>?_) fun _ _ h'=>h'.elim)))
 cases r with
 | none=>exact wpAny_pure h₁
 | some v=>
   refine wpAny_bind (wpAny_mono h₁ (fun _ s₁' h₁=>?_) fun _ _ h'=>h'.elim)
   refine wpAny_bind (wpAny_mono h₁ (fun _ s₂ h₂=>wpAny_bind (wpAny_mono h₂ (fun ok s₃ h₃=>?_) fun _ _ h'=>h'.elim)) fun _ _ h'=>h'.elim)
   cases ok with
   | true=>
     simp only[if_true]at h₃ ⊢
     refine wpAny_bind (wpAny_bind (wpAny_mono h₃ (fun x s₄ h₄=>wpAny_bind (wpAny_mono h₄ (fun _ s₅ h₅=>wpAny_pure (wpAny_pure ⟨rfl,h₅⟩)) fun _ _ h'=>h'.elim)) fun _ _ h'=>h'.elim))
   | false=>
     simp only[Bool.false_eq_true,if_false]at h₃ ⊢
     first
      | exact wpAny_bind (wpAny_pure (wpAny_pure ⟨rfl,h₃⟩))
      | exact wpAny_pure ⟨rfl,h₃⟩
noncomputable abbrev cxC(X:Cx)(scope:Scope)(cl:List (Str×Addr))(ex:List Addr)(s:Shared)(H:Hp):Cx:=
 {X with s₀:=s,H₀:=H,env:=compEnvC scope cl s.heap.objs.size X.env,outer:=X.stack,ex:=ex,fn:=fun x=>scope.names.lookup x==some .cell,xe:=fun _ _=>False}
noncomputable def blank(own:List Nat)(σ:St):St:=own.foldl (fun σ i=>σ.set i none) σ
theorem lZ:∀ (own:List Nat) (σ:St),(blank own σ).length=σ.length
 | [],_=>rfl
 | i::r,σ=>(lZ r (σ.set i none)).trans (by simp)
theorem lJ:∀ (own:List Nat) (σ:St) (i:Nat) (v:V),(blank own σ)[i]? = some (some v)->i∉own/\σ[i]? = some (some v)
 | [],_,_,_,h=>⟨by simp,h⟩
 | j::r,σ,i,v,h=>by
   obtain⟨h1,h2⟩:=lJ r (σ.set j none) i v h
   by_cases e:i=j
   ·subst e
    rw[List.getElem?_set]at h2
    simp at h2
   ·rw[List.getElem?_set_ne (Ne.symm e)]at h2
    exact⟨by simp[e,h1],h2⟩
noncomputable def bO3(own:List Nat)(g:TG):Prop:=∀ x σ H Q,g x σ H Q->g x σ H fun σ' H'=>Q σ' H'/\σ'.length=σ.length/\∀ i,i∉own->σ'[i]? = σ[i]?
noncomputable def bB6(own:List Nat)(g:TGs):Prop:=∀ x σ H Q,g x σ H Q->g x σ H fun σ' H'=>Q σ' H'/\σ'.length=σ.length/\∀ i,i∉own->σ'[i]? = σ[i]?
theorem aS{own:List Nat}{i:Nat}(h:i∈own):bO3 own (qJ i):=fun x σ H Q q=>
 ⟨q,by simp,fun j hj=>List.getElem?_set_ne (fun e:i=j=>hj (by rw[← e];exact h))⟩
theorem fY{own:List Nat}:bB6 own cL4:=fun x σ H Q q=>⟨q.1,q.2,rfl,fun _ _=>rfl⟩
theorem bT{own:List Nat}{t:TG}{u:TGs}(ht:bO3 own t)(hu:bB6 own u)(mt:∀ x σ H Q Q',(∀ a b,Q a b->Q' a b)->t x σ H Q->t x σ H Q'):bB6 own (aD4 t u):=by
 intro x σ H Q q
 obtain⟨v,r,e,q⟩:=q
 refine⟨v,r,e,mt _ _ _ _ _ (fun σ1 H1 q1=>?_) (ht _ _ _ _ q)⟩
 obtain⟨q1,l1,p1⟩:=q1
 have:=hu _ _ _ _ q1
 revert this
 exact fun this=>by
  have hu2:u r σ1 H1 (fun σ' H'=>Q σ' H'/\σ'.length=σ1.length/\∀ i,i∉own->σ'[i]? = σ1[i]?):=this
  rw[l1]at hu2
  have e2:(fun(σ':St) H'=>Q σ' H'/\σ'.length=σ.length/\∀ i,i∉own->σ'[i]? = σ1[i]?)=(fun(σ':St) H'=>Q σ' H'/\σ'.length=σ.length/\∀ i,i∉own->σ'[i]? = σ[i]?):=by
   funext σ' H'
   apply propext
   constructor
   ·rintro⟨a,b,c⟩;exact⟨a,b,fun i hi=>(c i hi).trans (p1 i hi)⟩
   ·rintro⟨a,b,c⟩;exact⟨a,b,fun i hi=>(c i hi).trans (p1 i hi).symm⟩
  rw[← e2];exact hu2
theorem bU{i:Nat}:∀ x σ H (Q Q':St->Hp->Prop),(∀ a b,Q a b->Q' a b)->qJ i x σ H Q->qJ i x σ H Q':=fun _ _ _ _ _ f q=>f _ _ q
noncomputable def bI3(X:Cx)(ifs:List Expr)(t:TT):Prop:=
 ∀ (pins:List (Addr×Obj)) (s:Shared) (σ:St) (H:Hp) (Q:Bool->Hp->Prop),Inv X pins σ H s->t σ H Q ->
   wpAny (model X.prog X.w) X.A (forIn ifs true fun c r=>if r=true then do let ok ← isTrue c X.env (eval c X.env);pure (ForInStep.yield ok)else pure (ForInStep.yield r)) (TP X pins σ Q) X.xe s
noncomputable def cC4:TT:=fun _ H Q=>Q true H
theorem qO{X:Cx}:bI3 X [] cC4:=fun _ _ _ H _ I h=>wpAny_tests_nil ⟨H,I,h⟩
theorem xT{X:Cx}{c:Expr}{t:TT}(h:PT X c t):bI3 X [c] t:=fun pins s σ H Q I q=>wpAny_tests_one (h pins s σ H Q I q)
structure CompScope(X:Cx)(scope:Scope)(own:List Nat):Prop where
 kind:scope.kind=.function
 cells:∀ y∈scope.names,y.2=.cell->scope.names.lookup y.1=some .cell
 names:∀ y∈scope.names,y.2=.local->scope.names.lookup y.1=some .local
 free:∀ y∈scope.names,y.2=.free->X.env.kindOf y.1=some .cell\/X.env.kindOf y.1=some .free
 own:∀ i x,X.N[i]? = some x->(scope.names.lookup x=some .local\/scope.names.lookup x=some .cell)->i∈own
 calm:X.calm=true
noncomputable def bI4(own:List Nat)(wi:TI)(g:TG)(tt:TT)(te:TE)(σ:St)(H:Hp)(F:List V->Hp->Prop):Prop:=
 wi σ H fun J H1=>∃ W:Nat->Nat->List V->Hp->Prop,(∃ m,W 0 m [] H1)/\∀ i m ys H,W i m ys H->ys.length<=sizeLine /\
  ((J.stop i H/\F ys H)\/(J.go i H/\∀ x H',J.yld i H x H'->g x (blank own σ) H' fun σ2 H2=>tt σ2 H2 fun b H3=>
    if b=true then te σ2 H3 fun v H4=>∃ m',m' < m/\W (i+1) m' (ys++[v]) H4 else ∃ m',m' < m/\W (i+1) m' ys H3))
noncomputable def zX(own:List Nat)(wi:TI)(g:TG)(tt:TT)(te:TE):TE:=fun σ H Q=>bI4 own wi g tt te σ H fun ys H'=>∀ p,H' p=none->Q (.ref p) (upd H' p (.lst ys))
structure Stray(X:Cx)(pins:List (Addr×Obj))(H:Hp)(b:Addr):Prop where
 un:H b=none
 loc:b≠X.env.locals
 young:X.s₀.heap.objs.size<=b
 cell:∀ x c,X.env.cells.lookup x=some c->c≠b
 pin:∀ p∈X.pn++pins,p.1≠b
theorem Inv.stray{X:Cx}{pins:List (Addr×Obj)}{σ:St}{H H':Hp}{s:Shared}{b:Addr}(I:Inv X pins σ H s)(hb:s.heap.objs.size<=b)(hn:H' b=none):Stray X pins H' b:=by
 obtain⟨h1,h2,h3,h4,h5,h6⟩:=I.fpOk hb hn
 exact⟨h1,h2,Nat.le_trans I.sz hb,h5,h6⟩
set_option maxHeartbeats 8000000 in
theorem zY{X:Cx}{tg iter elt:Expr}{ifs:List Expr}{scope:Scope}{pos:Pos}{own:List Nat}{g:TG}{tt:TT}{te:TE}{use:Option (Value->Sem Unit)}{Qf:Value->Shared->Prop}
  (S:CompScope X scope own) (hg:∀ cl ex s H,PG (cxC X scope cl ex s H) tg g) (hG:bO3 own g)
  (ht:∀ cl ex s H,bI3 (cxC X scope cl ex s H) ifs tt) (he:∀ cl ex s H,PE (cxC X scope cl ex s H) elt te)
  {pins:List (Addr×Obj)} {s₃:Shared} {σ:St} {H2:Hp} {F:List V->Hp->Prop} {cl:List (Str×Addr)} {J:It} {fp:List Addr} {it D:Addr} {tn:Nat->Heap->Prop} {h₁:Heap} {mC:Str->Option Value} {tk m0:Nat} {W:Nat->Nat->List V->Hp->Prop}
  (I3:Inv X pins σ H2 s₃) (T:Turn X.prog X.w X.K tg J fp it tn) (cl1:∀ x c,cl.lookup x=some c->(X.env.cells.lookup x=some c/\scope.names.lookup x≠some .cell)\/(s₃.heap.objs.size < c/\scope.names.lookup x=some .cell/\h₁.IsCell c none)) (cl2:∀ y∈scope.names,y.2=.free\/y.2=.cell->∃ c,cl.lookup y.1=some c)
  (cl3:∀ x y c,cl.lookup x=some c->cl.lookup y=some c->x=y)
  (f2:∀ b∈fp,aD6 X pins H2 b) (hfpD:∀ b∈fp,b < D) (hDlt:D < s₃.heap.objs.size) (stack_ne:∀ b,b∈frs X.stack->b < D) (hbase:∀ b o,X.base.get? b=some o->b < D) (strD:Stray X pins H2 D)
  (hD3:s₃.heap.get? D=some {cls:=.type "list",data:=.seq ([]:List Value).toArray}) (st3:tn 0 s₃.heap) (hns₁:h₁.Ns s₃.heap.objs.size mC) (old4:∀ b o,s₃.heap.get? b=some o->h₁.get? b=some o)
  (w0:W 0 m0 [] H2) (turn:∀ i m ys H,W i m ys H->ys.length<=sizeLine /\
  ((J.stop i H/\F ys H)\/(J.go i H/\∀ x H',J.yld i H x H'->g x (blank own σ) H' fun σ2 H2=>tt σ2 H2 fun b H3=>
    if b=true then te σ2 H3 fun v H4=>∃ m',m' < m/\W (i+1) m' (ys++[v]) H4 else ∃ m',m' < m/\W (i+1) m' ys H3)))
  (fin:∀ D C ys H' s' m,Inv X pins σ (upd H' D (.lst ys)) s'->H' D=none->s'.heap.Ns C m->Stray X pins (upd H' D (.lst ys)) C->F ys H' ->
   compPost (model X.prog X.w) X.A X.xe use Qf (.ref D) C (.ok .next) s') :
  codeAny (model X.prog X.w) X.A (.compLoop (.ListComp elt [⟨tg,iter,ifs,0⟩] scope pos) 0 (.ref it) (.ref D) (compEnvC scope cl s₃.heap.objs.size X.env))
   (compPost (model X.prog X.w) X.A X.xe use Qf (.ref D) s₃.heap.objs.size) {s₃ with heap:=h₁,toks:=tk}:=by
 have cneD:∀ x c,cl.lookup x=some c->c≠D:=fun x c q=>by
  rcases cl1 x c q with z | z
  ·exact strD.cell x c z.1
  ·exact(Nat.ne_of_lt (Nat.lt_trans hDlt z.1)).symm
 have cneF:∀ b∈fp,∀ x c,cl.lookup x=some c->c≠b:=fun b hb x c q=>by
  rcases cl1 x c q with z | z
  ·exact(f2 b hb).2.2.2.2.1 x c z.1
  ·exact(Nat.ne_of_lt (Nat.lt_trans (Nat.lt_trans (hfpD b hb) hDlt) z.1)).symm
 have okY:(cxC X scope cl (D::fp) s₃ H2).Ok:=by
  refine⟨I3.ok.mod,S.kind,I3.ok.glob,I3.ok.blt,Nat.le_refl _,cl3,fun x hk=>?_,fun x c hf q=>?_,I3.ok.hd,I3.ok.frames,.inl rfl,fun b hb=>?_,fun b o q=>?_,?_,fun b o q hb=>?_,fun b hb hfs=>?_,I3.stack,I3.stkFree⟩
  ·rcases kJ hk with z | z
   ·exact cl2 _ z (.inl rfl)
   ·exact cl2 _ (mem_of_lookup z) (.inr rfl)
  ·rcases cl1 x c q with z | z
   ·have hf':scope.names.lookup x=some .cell:=by simpa using hf
    exact absurd hf' z.2
   ·exact Nat.le_of_lt z.1
  ·constructor
   ·show b≠s₃.heap.objs.size
    rcases List.mem_cons.mp hb with z | z
    ·rw[z];exact Nat.ne_of_lt hDlt
    ·exact Nat.ne_of_lt (Nat.lt_trans (hfpD b z) hDlt)
   ·intro x c q
    rcases List.mem_cons.mp hb with z | z
    ·rw[z];exact cneD x c q
    ·exact cneF b z x c q
  ·exact I3.bs b o q
  ·exact Nat.le_trans I3.ok.bsz I3.sz
  ·rcases List.mem_cons.mp hb with z | z
   ·have:=hbase b o q
    rw[z]at this
    exact Nat.lt_irrefl _ this
   ·rcases(f2 b z).2.2.2.1 with y | y
    ·exact I3.ok.noex b o q y
    ·exact Nat.lt_irrefl _ (Nat.lt_of_lt_of_le (Heap.lt_size q) (Nat.le_trans I3.ok.bsz y))
  ·rcases List.mem_cons.mp hb with z | z
   ·have:=stack_ne b hfs
    rw[z]at this
    exact Nat.lt_irrefl _ this
   ·rcases List.mem_cons.mp (I3.stkSub b hfs)with y | y
    ·exact(f2 b z).2.1 y
    ·exact(f2 b z).2.2.1 y
 have IY:Inv (cxC X scope cl (D::fp) s₃ H2) pins (blank own σ) H2 {s₃ with heap:=h₁,toks:=tk}:=by
  refine⟨okY,rfl,I3.bare,Un.kept old4,⟨_,hns₁,fun i x v e1 e2 e3=>?_⟩,fun x c q=>?_,I3.hok.fresh (Nat.le_refl _),fun x c q=>by
   rcases cl1 x c q with z | z
   ·exact I3.freeC x c z.1
   ·exact I3.hok.fresh (Nat.le_of_lt z.1),fun p hp=>?_,I3.hok.kept old4,(lZ own σ).trans I3.len⟩
  ·obtain⟨hno,e2'⟩:=lJ own σ i v e2
   have hnl:¬ (relabel scope X.env).names.lookup x=some .local:=fun z=>hno (S.own i x e1 (.inl (qN z)))
   have hnc:¬ scope.names.lookup x=some .cell:=fun z=>hno (S.own i x e1 (.inr z))
   have hcf:(relabel scope X.env).names.lookup x=some .cell\/(relabel scope X.env).names.lookup x=some .free:=by
    rcases e3 with z | z | z
    ·exact absurd z hnl
    ·exact .inl z
    ·exact .inr z
   have hmem:=(kJ hcf).resolve_right hnc
   have hkX:=S.free _ hmem rfl
   obtain⟨m,hm,hl⟩:=I3.loc
   obtain⟨u,r,lk⟩:=hl i x v e1 e2' (by rcases hkX with z | z;exact .inr (.inl z);exact .inr (.inr z))
   obtain⟨c,hc⟩:=cl2 _ hmem (.inl rfl)
   refine⟨u,r,.inr ⟨hcf,c,hc,?_⟩⟩
   rcases lk with⟨z,_⟩ | ⟨_,c',hc',ic⟩
   ·dsimp only at hkX
    rw[z]at hkX
    rcases hkX with y | y<;>cases y
   ·have:=((cl1 _ c hc).resolve_right fun z=>hnc z.2.1).1
    dsimp only at this
    rw[hc']at this
    cases this
    obtain⟨o,ho,hd⟩:=ic
    exact⟨o,old4 _ _ ho,hd⟩
  ·rcases cl1 x c q with z | z
   ·obtain⟨v,o,ho,hd⟩:=I3.cell x c z.1
    exact⟨v,o,old4 _ _ ho,hd⟩
   ·exact⟨_,z.2.2⟩
  ·obtain⟨q,n,ne,nf,d⟩:=I3.pin p hp
   refine⟨old4 _ _ q,n,Nat.ne_of_lt (Heap.lt_size q),fun hb=>?_,d⟩
   rcases List.mem_cons.mp (I3.stkSub _ hb)with y | y
   ·exact ne y
   ·exact nf y
 have DY:D≠s₃.heap.objs.size:=Nat.ne_of_lt hDlt
 have statY:∀ {H':Hp},(∀ b∈fp,H' b=none)->∀ b∈fp,aD6 (cxC X scope cl (D::fp) s₃ H2) pins H' b:=fun hn b hb=>by
  refine⟨hn b hb,?_,?_,.inl (List.mem_cons_of_mem _ hb),cneF b hb,(f2 b hb).2.2.2.2.2⟩
  ·show b≠s₃.heap.objs.size
   exact Nat.ne_of_lt (Nat.lt_trans (hfpD b hb) hDlt)
  ·intro hfs
   rcases List.mem_cons.mp (I3.stkSub b hfs)with y | y
   ·exact(f2 b hb).2.1 y
   ·exact(f2 b hb).2.2.1 y
 have hDfp:D∉fp:=fun z=>Nat.lt_irrefl _ (hfpD D z)
 have hDstk:D∉frs X.stack:=fun z=>Nat.lt_irrefl _ (stack_ne D z)
 have stat2:∀ {H':Hp} {o:Obj},(∀ b∈fp,H' b=none)->∀ b∈fp,aD6 (cxC X scope cl (D::fp) s₃ H2) (pins++[(D,o)]) H' b:=fun{H' o} fr b hb=>by
  obtain⟨a1,a2,a3,a4,a5,a6⟩:=statY fr b hb
  refine⟨a1,a2,a3,a4,a5,fun p hp z=>?_⟩
  rcases List.mem_append.mp hp with y | y
  ·exact a6 p (List.mem_append_left _ y) z
  ·rcases List.mem_append.mp y with y | y
   ·exact a6 p (List.mem_append_right _ y) z
   ·have e:p=(D,o):=List.mem_singleton.mp y
    rw[e]at z
    have z':D=b:=z
    exact hDfp (by rw[z'];exact hb)
 have pin2:∀ {H':Hp} {s':Shared} {its:Array Value} {k:Nat},Inv (cxC X scope cl (D::fp) s₃ H2) pins (blank own σ) H' s'->H' D=none->s'.heap.get? D=some {cls:=.type "list",data:=.seq its k} ->
   Inv (cxC X scope cl (D::fp) s₃ H2) (pins++[(D,{cls:=.type "list",data:=.seq its k})]) (blank own σ) H' s':=fun{H' s' its k} I4 D4 o4=>I4.pins_of fun p hp=>by
  rcases List.mem_append.mp hp with z | z
  ·exact I4.pin p (List.mem_append_right _ z)
  ·have e:p=(D,{cls:=.type "list",data:=.seq its k}):=List.mem_singleton.mp z
   subst e
   exact⟨o4,D4,DY,hDstk,fun v z=>by cases z⟩
 refine uO (fun n s'=>∃ i ys H' its k,Inv (cxC X scope cl (D::fp) s₃ H2) pins (blank own σ) H' s'/\tn i s'.heap/\(∀ b∈fp,H' b=none)/\H' D=none /\
  s'.heap.get? D=some {cls:=.type "list",data:=.seq its k}/\cO ys its.toList/\W i n ys H') ?_ m0
  ⟨0,[],H2,#[],_,IY,T.keep _ _ _ st3 fun b hb o q=>old4 b o q,fun b hb=>(f2 b hb).1,strD.un,old4 _ _ hD3,.nil,w0⟩
 rintro n s4 ⟨i,ys,H4,its,k,I4,st4,fr4,D4,o4,v4,w4⟩
 obtain⟨hz,step⟩:=turn i n ys H4 w4
 rcases step with⟨stop,qn⟩ | ⟨go,step⟩
 ·refine thn (T.done (cxC X scope cl (D::fp) s₃ H2) rfl rfl rfl S.calm i _ s4 (blank own σ) H4 (fun _ _=>False) (pin2 I4 D4 o4) (stat2 fr4) st4 stop) fun r s5 ⟨hr,I5⟩=>?_
  subst hr
  have oD:s5.heap.get? D=some {cls:=.type "list",data:=.seq its k}:=(I5.pin (D,_) (List.mem_append_right _ (List.mem_append_right _ List.mem_cons_self))).1
  have I5':Inv (cxC X scope cl (D::fp) s₃ H2) pins (blank own σ) H4 s5:=I5.unpinned
  have IX:Inv X pins σ H4 s5:=by
   refine I3.call' (ch:=D::fp) I5'.os I5'.base I5'.hok I5'.bare fun b hb=>?_
   rcases List.mem_cons.mp hb with z | z
   ·rw[z];exact⟨.inr strD.young,strD.loc,strD.cell,strD.pin⟩
   ·obtain⟨a1,a2,a3,a4,a5,a6⟩:=f2 b z
    exact⟨a4,a2,a5,a6⟩
  obtain⟨m5,hm5,_⟩:=I5'.loc
  have nC:H4 s₃.heap.objs.size=none:=I5'.free
  have IX':Inv X pins σ (upd H4 D (.lst ys)) s5:=by
   refine IX.adopt D4 strD.young strD.loc strD.cell strD.pin ⟨hz,its.toList,k,v4,?_⟩
   rw[oD]
  have strC:Stray X pins (upd H4 D (.lst ys)) s₃.heap.objs.size:=I3.stray (Nat.le_refl _) (by rw[aK (Ne.symm DY)];exact nC)
  exact fin D _ ys H4 s5 m5 IX' D4 hm5 strC qn
 ·refine thn (T.item (cxC X scope cl (D::fp) s₃ H2) rfl rfl rfl S.calm i _ s4 (blank own σ) H4 (fun _ _=>False) (pin2 I4 D4 o4) (stat2 fr4) st4 go) fun r s5 ⟨u,hr,h5⟩=>?_
  subst hr
  refine thn h5 fun _ s6 ⟨x,H6,I6,r6,y6,st6,fr6⟩=>?_
  have I6':=I6.pinned (stat2 fr6) (T.obj _ _ st6)
  refine thn (hg cl (D::fp) s₃ H2 _ s6 (blank own σ) H6 x u _ I6' r6 (hG _ _ _ _ (step x H6 y6))) fun _ s7 ⟨σ7,H7,I7,⟨q7,l7,p7⟩⟩=>?_
  refine thn (ht cl (D::fp) s₃ H2 _ s7 σ7 H7 _ I7 q7) fun b s8 ⟨H8,I8,q8⟩=>?_
  have weak:∀ {H9:Hp} {s9:Shared},Inv (cxC X scope cl (D::fp) s₃ H2) ((pins++[(D,{cls:=.type "list",data:=.seq its k})])++nD fp s6.heap) σ7 H9 s9 ->
    Inv (cxC X scope cl (D::fp) s₃ H2) ((pins++[(D,{cls:=.type "list",data:=.seq its k})])++nD fp s6.heap) (blank own σ) H9 s9:=fun I9=>
   I9.weak l7.symm fun j v e=>by rw[p7 j (lJ own σ j v e).1];exact e
  have tn9:∀ {H9:Hp} {s9:Shared},Inv (cxC X scope cl (D::fp) s₃ H2) ((pins++[(D,{cls:=.type "list",data:=.seq its k})])++nD fp s6.heap) (blank own σ) H9 s9->tn (i+1) s9.heap/\∀ b∈fp,H9 b=none:=fun I9=>
   ⟨T.keep _ _ _ st6 fun b hb o q=>(I9.pin (b,o) (List.mem_append_right _ (List.mem_append_right _ (jG hb q)))).1,fun b hb=>by
    obtain⟨o,q,d⟩:=T.obj _ _ st6 b hb
    exact(I9.pin (b,o) (List.mem_append_right _ (List.mem_append_right _ (jG hb q)))).2.1⟩
  cases b with
  | true=>
    rw[if_pos rfl]at q8 ⊢
    refine thn (he cl (D::fp) s₃ H2 _ s8 σ7 H8 _ I8 q8) fun y s9 ⟨v9,H9,I9,r9,m',hm',w9⟩=>?_
    have I9':=weak I9
    obtain⟨t9,f9⟩:=tn9 I9'
    have p9:=I9'.pin (D,_) (List.mem_append_right _ (List.mem_append_left _ (List.mem_append_right _ List.mem_cons_self)))
    have hlen:=v4.length
    have hz':its.size<=sizeLine:=by rw[← Array.length_toList];omega
    refine append_at (hsz:=hz') p9.1 fun h' hs' hD'=>?_
    have I9u:Inv (cxC X scope cl (D::fp) s₃ H2) pins (blank own σ) H9 s9:=I9'.unpinned.unpinned
    have I10:Inv (cxC X scope cl (D::fp) s₃ H2) pins (blank own σ) H9 {s9 with heap:=h'}:=
     I9u.turned (it:=D) (t':=s9.toks) (fun b o hb q=>(hs'.2 b hb).trans q) p9.2.1 DY (.inl List.mem_cons_self) cneD strD.pin
    refine⟨m',hm',i+1,ys++[v9],H9,its.push y,k+1,I10,T.keep _ _ _ t9 fun b hb o q=>(hs'.2 b fun z=>hDfp (by rw[← z];exact hb)).trans q,f9,p9.2.1,hD',?_,w9⟩
    rw[Array.toList_push]
    exact v4.append (.cons r9 .nil)
  | false=>
    rw[if_neg Bool.false_ne_true]at q8 ⊢
    obtain⟨m',hm',w9⟩:=q8
    have I9':=weak I8
    obtain⟨t9,f9⟩:=tn9 I9'
    have p9:=I9'.pin (D,_) (List.mem_append_right _ (List.mem_append_left _ (List.mem_append_right _ List.mem_cons_self)))
    exact⟨m',hm',i+1,ys,H8,its,k,I9'.unpinned.unpinned,t9,f9,p9.2.1,p9.1,v4,w9⟩
set_option maxHeartbeats 8000000 in
theorem sJ{X:Cx}{tg iter elt:Expr}{ifs:List Expr}{scope:Scope}{pos pos':Pos}{own:List Nat}{wi:TI}{g:TG}{tt:TT}{te:TE}{use:Option (Value->Sem Unit)}{Qf:Value->Shared->Prop}
  (S:CompScope X scope own) (hi:PI X tg iter wi) (hg:∀ cl ex s H,PG (cxC X scope cl ex s H) tg g) (hG:bO3 own g)
  (ht:∀ cl ex s H,bI3 (cxC X scope cl ex s H) ifs tt) (he:∀ cl ex s H,PE (cxC X scope cl ex s H) elt te)
  {pins:List (Addr×Obj)} {s:Shared} {σ:St} {H:Hp} {F:List V->Hp->Prop} (I:Inv X pins σ H s) (hw:bI4 own wi g tt te σ H F)
  (hs:∀ x,foldedSetIterable iter X.env x=pure x)
  (fin:∀ D C ys H' s' m,Inv X pins σ (upd H' D (.lst ys)) s'->H' D=none->s'.heap.Ns C m->Stray X pins (upd H' D (.lst ys)) C->F ys H' ->
   compPost (model X.prog X.w) X.A X.xe use Qf (.ref D) C (.ok .next) s') :
  wpAny (model X.prog X.w) X.A (comprehension (.ListComp elt [⟨tg,iter,ifs,0⟩] scope pos) scope X.env pos' (newList []) false (eval iter X.env) use) Qf X.xe s:=by
 obtain⟨cl,hcl,cl1,cl2⟩:=zW (scope:=scope) (env:=X.env) fun y hy hf=>I.ok.has y.1 (S.free y hy hf)
 refine wpAny_comprehension_free (use:=use) rfl hs hcl S.kind S.names (thn (hi pins s σ H _ I hw) fun v s₁ h₁=>thn h₁ fun itv s₂ h₂=>?_)
 obtain⟨it,fp,tn,J,H2,e,I2,T,st2,f2,W,⟨m0,w0⟩,turn⟩:=h₂
 subst e
 refine wpAny_newObj_type (bO2 ?_)
 dsimp only
 have hsz:(s₂.heap.push {cls:=.type "list",dict:=none,data:=.seq ([]:List Value).toArray}).objs.size=s₂.heap.objs.size+1:=Heap.size_push ..
 have old3:∀ b o,s₂.heap.get? b=some o->(s₂.heap.push {cls:=.type "list",dict:=none,data:=.seq ([]:List Value).toArray}).get? b=some o:=fun b o q=>Heap.get?_push_of_some _ q
 have hD3:(s₂.heap.push {cls:=.type "list",dict:=none,data:=.seq ([]:List Value).toArray}).get? s₂.heap.objs.size=some {cls:=.type "list",dict:=none,data:=.seq ([]:List Value).toArray}:=Heap.get?_push_size _ rfl
 generalize hG3:s₂.heap.push {cls:=.type "list",dict:=none,data:=.seq ([]:List Value).toArray}=G3 at hsz old3 hD3 ⊢
 have hsz4:(G3.push {cls:=.type "dict",data:=.dict #[]}).objs.size=G3.objs.size+1:=Heap.size_push ..
 have hns₁:(pushCells (G3.push {cls:=.type "dict",data:=.dict #[]}) scope.names).Ns G3.objs.size (fun _=>none):=(Heap.Ns.new G3 (.type "dict")).keeps (pushCells_keeps _ _)
 have old4:∀ b o,G3.get? b=some o->(pushCells (G3.push {cls:=.type "dict",data:=.dict #[]}) scope.names).get? b=some o:=fun b o q=>pushCells_keeps _ _ b o (Heap.get?_push_of_some _ q)
 have ok:=cellsFrom_ok scope.names (G3.push {cls:=.type "dict",data:=.dict #[]}) (G3.objs.size+1) [] ⟨fun _ _ hm=>(nomatch hm),List.Pairwise.nil⟩ (by rw[hsz4];exact Nat.le_refl _)
 rw[hsz4]at ok
 generalize pushCells (G3.push {cls:=.type "dict",data:=.dict #[]}) scope.names=h₁ at hns₁ old4 ok ⊢
 have I3:Inv X pins σ H2 {s₂ with heap:=G3}:=I2.kept (t':=s₂.toks) old3
 have look:∀ x,(cellsFrom (G3.objs.size+1) scope.names cl).lookup x=((cellsFrom (G3.objs.size+1) scope.names []).lookup x).or (cl.lookup x):=fun x=>by rw[dH,List.lookup_append]
 have newc:∀ x c,(cellsFrom (G3.objs.size+1) scope.names []).lookup x=some c->G3.objs.size < c/\scope.names.lookup x=some .cell/\h₁.IsCell c none:=fun x c q=>
  ⟨(ok.empty x c (mem_of_lookup q)).2,S.cells _ (iE _ _ x c (mem_of_lookup q)) rfl,(ok.empty x c (mem_of_lookup q)).1⟩
 have cl1':∀ x c,(cellsFrom (G3.objs.size+1) scope.names cl).lookup x=some c->(X.env.cells.lookup x=some c/\scope.names.lookup x≠some .cell)\/(G3.objs.size < c/\scope.names.lookup x=some .cell/\h₁.IsCell c none):=fun x c q=>by
  rw[look]at q
  cases e:(cellsFrom (G3.objs.size+1) scope.names []).lookup x with
  | some c'=>rw[e]at q;cases q;exact .inr (newc x _ e)
  | none=>
    rw[e]at q
    refine .inl ⟨cl1 x c q,fun z=>?_⟩
    obtain⟨c',hc'⟩:=eJ scope.names (G3.objs.size+1) x (mem_of_lookup z)
    rw[e]at hc';cases hc'
 have oldlt:∀ x c,X.env.cells.lookup x=some c->c < G3.objs.size:=fun x c q=>by
  obtain⟨v,o,ho,hd⟩:=I3.cell x c q
  exact Heap.lt_size ho
 have loop:=zY (iter:=iter) (elt:=elt) (pos:=pos) (use:=use) (Qf:=Qf) (tk:=s₂.toks) (h₁:=h₁) S hg hG ht he I3 T cl1' (fun y hy hk=>by
   rw[look]
   rcases hk with z | z
   ·obtain⟨c,hc⟩:=cl2 y hy z
    cases e:(cellsFrom (G3.objs.size+1) scope.names []).lookup y.1 with
    | some c'=>exact⟨c',rfl⟩
    | none=>exact⟨c,hc⟩
   ·obtain⟨c,hc⟩:=eJ scope.names (G3.objs.size+1) y.1 (by rw[← z];exact hy)
    exact⟨c,by rw[hc];rfl⟩) (fun x y c q1 q2=>by
   rcases cl1' x c q1 with z1 | z1
   ·rcases cl1' y c q2 with z2 | z2
    ·exact I3.ok.inj x y c z1.1 z2.1
    ·exact absurd z2.1 (Nat.not_lt.mpr (Nat.le_of_lt (oldlt x c z1.1)))
   ·rcases cl1' y c q2 with z2 | z2
    ·exact absurd z1.1 (Nat.not_lt.mpr (Nat.le_of_lt (oldlt y c z2.1)))
    ·have m1:(cellsFrom (G3.objs.size+1) scope.names []).lookup x=some c:=by
      obtain⟨c',hc'⟩:=eJ scope.names (G3.objs.size+1) x (mem_of_lookup z1.2.1)
      rw[look,hc']at q1;cases q1;exact hc'
     have m2:(cellsFrom (G3.objs.size+1) scope.names []).lookup y=some c:=by
      obtain⟨c',hc'⟩:=eJ scope.names (G3.objs.size+1) y (mem_of_lookup z2.2.1)
      rw[look,hc']at q2;cases q2;exact hc'
     exact name_of_addr ok.apart (mem_of_lookup m1) (mem_of_lookup m2)) f2 (fun b hb=>by obtain⟨o,q,_⟩:=T.obj _ _ st2 b hb;exact Heap.lt_size q)
  (by show s₂.heap.objs.size < G3.objs.size;omega) (fun b hb=>by
   rcases List.mem_cons.mp (I2.stkSub b hb)with z | z
   ·rw[z];exact I2.lt
   ·exact Nat.lt_of_not_le fun hle=>I2.nofs hle z)
  (fun b o q=>Heap.lt_size (I2.bs b o q).1) (I2.stray (Nat.le_refl _) (I2.hok.fresh (Nat.le_refl _))) hD3 (T.keep _ _ _ st2 fun b hb o q=>old3 b o q) hns₁ old4 w0 turn fin
 exact codeAny_compStart_list loop (T.self _ 0 _ _ _ (T.keep _ _ _ st2 fun b hb o q=>old4 b o (old3 b o q)) loop)
theorem cT{X:Cx}{tg iter elt:Expr}{ifs:List Expr}{scope:Scope}{pos:Pos}{own:List Nat}{wi:TI}{g:TG}{tt:TT}{te:TE}
  (S:CompScope X scope own) (hi:PI X tg iter wi) (hg:∀ cl ex s H,PG (cxC X scope cl ex s H) tg g) (hG:bO3 own g)
  (ht:∀ cl ex s H,bI3 (cxC X scope cl ex s H) ifs tt) (he:∀ cl ex s H,PE (cxC X scope cl ex s H) elt te)
  (hs:∀ x,foldedSetIterable iter X.env x=pure x:=by intro _;rfl):PE X (.ListComp elt [⟨tg,iter,ifs,0⟩] scope pos) (zX own wi g tt te):=by
 intro pins s σ H Q I hw
 rw[eval_ListComp]
 refine sJ (use:=none) S hi hg hG ht he I hw hs fun D C ys H' s' m IX hD hm str q=>?_
 refine⟨m,hm,fun h' hs'=>⟨.ref D,upd H' D (.lst ys),?_,rfl,q D hD⟩⟩
 exact IX.turned (it:=C) (t':=s'.toks) (fun b o hb e=>(hs'.2 b hb).trans e) str.un str.loc (.inr str.young) str.cell str.pin
theorem fU{X:Cx}{i:Nat}{x:Str}{tg iter elt:Expr}{ifs:List Expr}{scope:Scope}{pos pos' spos:Pos}{own:List Nat}{wi:TI}{g:TG}{tt:TT}{te:TE}
  (hN:X.N.Nodup) (hin:X.N[i]? = some x) (hx:X.env.scope.names.lookup x=some .local)
  (S:CompScope X scope own) (hi:PI X tg iter wi) (hg:∀ cl ex s H,PG (cxC X scope cl ex s H) tg g) (hG:bO3 own g)
  (ht:∀ cl ex s H,bI3 (cxC X scope cl ex s H) ifs tt) (he:∀ cl ex s H,PE (cxC X scope cl ex s H) elt te)
  (hsw:swapsWith (.ListComp elt [⟨tg,iter,ifs,0⟩] scope pos) (some (.Name x pos')) spos.line X.env=pure true)
  (hs:∀ x,foldedSetIterable iter X.env x=pure x:=by intro _;rfl) :
  PS X (.Assign [.Name x pos'] (.ListComp elt [⟨tg,iter,ifs,0⟩] scope pos) spos) (fun D σ H=>zX own wi g tt te σ H fun v H1=>D.nx (σ.set i (some v)) H1):=by
 intro pins s σ H D0 I hw
 rw[exec_Assign_Name_used _ _ _ _ hsw]
 refine wpAny_bind (wpAny_standAt (wpAny_bind ?_))
 show wpAny _ _ (do let _ ← comprehension (.ListComp elt [⟨tg,iter,ifs,0⟩] scope pos) scope X.env _ (newList []) false (eval iter X.env) (some (assign (.Name x pos') X.env))) _ _ s
 refine wpAny_bind (thn (sJ (use:=some (assign (.Name x pos') X.env)) (Qf:=fun _ s'=>SP X pins D0 .next s') S hi hg hG ht he I hw hs fun D C ys H' s' m IX hD hm str q=>?_) fun _ s' hq=>wpAny_pure (wpAny_pure hq))
 show wpAny _ _ (assign (.Name x pos') X.env (.ref D)) _ _ s'
 refine wpAny_assign_Name (rV (v:=.ref D) IX hN hin (.inl hx) (show eR (.ref D) (Value.ref D)from rfl) (fun s'' I'' hch=>?_) (.inr hx))
 obtain⟨a,hsame,ha⟩:=hch
 have hCa:C≠a:=by
  rcases ha with z | z
  ·rw[z];exact str.loc
  ·exact Ne.symm (str.cell x a z)
 refine⟨m,hm.sameBut hsame hCa,fun h' hs'=>⟨_,_,?_,q D hD⟩⟩
 exact I''.turned (it:=C) (t':=s''.toks) (fun b o hb e=>(hs'.2 b hb).trans e) str.un str.loc (.inr str.young) str.cell str.pin
section
variable{X:Cx}
theorem bB7(hc:X.calm=true):iT X (.builtin "all") (fun xs H Q=>∃ (a:Addr) (bs:List Bool),xs=[.ref a]/\SqL X.K H a (bs.map V.bl)/\Q (.bl (bs.all id)) H):=by
 intro pins s σ H xs us Q I r h
 obtain⟨a,bs,rfl,ha,q⟩:=h
 obtain⟨u,rfl,ru⟩:=rY r
 cases ru
 obtain⟨its,rv,p,hz⟩:=I.list ha
 have hlt:a < s.heap.objs.size:=by obtain⟨_,e,_⟩:=p.isList;exact Heap.lt_size e
 have hh:X.A.in1.handled=none:=I.ok.hd hc
 refine call_all_walk (wpAny_pyIter_list p.isList ?_)
 refine⟨s.heap.objs.size,[s.heap.objs.size,a],[s.heap.objs.size],its.toArray.size,_,_,fun i=>(bs[i]?).getD true,rfl,Walks.list (A:=X.A.in1) hh _ a (Nat.ne_of_lt hlt) its.toArray,
  ⟨⟨_,Heap.get?_push_size _ rfl,rfl,rfl⟩,p.isList.push _⟩,fun i v s' Q' E' hP hQ=>?_,fun h' tk hk=>?_⟩
 ·have hi:its[i]? = some v:=by simpa using hP
  have hlen:=rv.length
  have hilt:i < its.length:=(List.getElem?_eq_some_iff.mp hi).1
  have hb:i < bs.length:=by rw[List.length_map]at hlen;omega
  obtain⟨u,hu,r2⟩:=rv.get (i:=i) (x:=V.bl bs[i]) (by rw[List.getElem?_map,List.getElem?_eq_getElem hb];rfl)
  rw[hi]at hu;cases hu
  have e:v=Value.bool bs[i]:=r2
  subst e
  simp only[List.getElem?_eq_getElem hb,Option.getD_some]at hQ
  exact wpAny_truthy_bool hQ
 ·have e:((List.range its.toArray.size).all fun i=>(bs[i]?).getD true)=bs.all id:=by
   have hlen:=rv.length
   rw[List.length_map]at hlen
   rw[List.size_toArray,← hlen]
   rw[Bool.eq_iff_iff,List.all_eq_true,List.all_eq_true]
   constructor
   ·intro h1 b hb
    obtain⟨i,hi,rfl⟩:=List.getElem_of_mem hb
    have:=h1 i (List.mem_range.mpr hi)
    simp only[List.getElem?_eq_getElem hi,Option.getD_some]at this
    exact this
   ·intro h1 i hi
    have hi':=List.mem_range.mp hi
    simp only[List.getElem?_eq_getElem hi',Option.getD_some]
    exact h1 _ (List.getElem_mem hi')
  rw[e]
  exact⟨.bl _,H,I.kept (t':=tk) fun b o q=>hk b o (fun hm=>by
   have z:b=s.heap.objs.size:=by simpa using hm
   rw[z]at q;exact Nat.lt_irrefl _ (Heap.lt_size q)) (Heap.get?_push_of_some _ q),rfl,q⟩
noncomputable def Its(x:Str):It:=⟨fun i _=>∃ c,x.cps[i]? = some c,fun i H v H'=>H'=H/\∃ c,x.cps[i]? = some c/\v=.str ⟨#[c]⟩,fun i _=>x.cps[i]? = none⟩
theorem xU{P:Program}{w:World}{K:PySem.W.Frag}{tg:Expr}(x:Str)(t:Tok)(it:Addr)(ty:String)(hty:ty="str_ascii_iterator"\/ty="str_iterator"):Turn P w K tg (Its x) [it] it (fun i h=>h.IsStrIter it ty x t i) where
 mem:=by simp
 obj:=fun i h st b hb=>by
  have e:b=it:=by simpa using hb
  subst e
  obtain⟨o,e,c,d⟩:=st
  exact⟨o,e,fun v z=>by rw[d]at z;cases z⟩
 keep:=fun i h h' st k=>by
  obtain⟨o,e,c,d⟩:=st
  exact⟨o,k it (by simp) o e,c,d⟩
 item:=by
  intro X hP hw hK hc i pins s σ H E I hf st hg
  subst hP hw hK
  obtain⟨c,hx⟩:=hg
  obtain⟨f0,f1,f2,f3,f4,f5⟩:=hf it (by simp)
  rcases hty with rfl | rfl
  ·refine wpAny_pyNext_ascii_item st hx fun h' st' sb=>?_
   have I1:Inv X pins σ H {s with heap:=h',toks:=s.toks+1}:=I.turned (t':=s.toks+1) (fun b o hb e=>(sb.2 b hb).trans e) f0 f1 f3 f4 f5
   obtain⟨o,e,c',d⟩:=id st'
   exact⟨_,rfl,aD7 (s:={s with heap:=h',toks:=s.toks+1}) e c' d (by decide) ⟨.str ⟨#[c]⟩,H,I1,⟨_,rfl⟩,⟨rfl,c,hx,rfl⟩,st',fun b hb=>(hf b hb).1⟩⟩
  ·refine wpAny_pyNext_wide_item st hx fun h' st' sb=>?_
   have I1:Inv X pins σ H {s with heap:=h',toks:=s.toks+1}:=I.turned (t':=s.toks+1) (fun b o hb e=>(sb.2 b hb).trans e) f0 f1 f3 f4 f5
   obtain⟨o,e,c',d⟩:=id st'
   exact⟨_,rfl,aD7 (s:={s with heap:=h',toks:=s.toks+1}) e c' d (by decide) ⟨.str ⟨#[c]⟩,H,I1,⟨_,rfl⟩,⟨rfl,c,hx,rfl⟩,st',fun b hb=>(hf b hb).1⟩⟩
 done:=by
  intro X hP hw hK hc i pins s σ H E I hf st hg
  subst hP hw hK
  have hx:x.cps[i]? = none:=hg
  obtain⟨f0,f1,f2,f3,f4,f5⟩:=hf it (by simp)
  rcases hty with rfl | rfl
  ·exact wpAny_pyNext_ascii_end (I.ok.hd hc) st hx fun h' eb=>⟨rfl,I.turned (t':=s.toks) (fun b o hb e=>eb b o hb e) f0 f1 f3 f4 f5⟩
  ·exact wpAny_pyNext_wide_end (I.ok.hd hc) st hx fun h' eb=>⟨rfl,I.turned (t':=s.toks) (fun b o hb e=>eb b o hb e) f0 f1 f3 f4 f5⟩
 self:=fun _ _ _ _ _ st h=>by
  rcases hty with rfl | rfl
  ·exact wpAny_pyIter_striter_ascii st h
  ·exact wpAny_pyIter_striter_wide st h
noncomputable def cU2:V->Option Int->Option Int->Hp->VK->Prop:=fun x lo hi H Q=>∃ z,x=.str z/\z.length<=sizeLine/\Q (.str (PySem.Txt.slice z lo hi)) H
theorem cC5:SlR X cU2:=by
 intro pins s σ H x v vl vu lo hi sl Q I rx hs pl pu h
 obtain⟨z,rfl,hz,q⟩:=h
 obtain⟨t,rfl⟩:=rx
 refine⟨"str",_,F.slot_str_getitem.lookup,typeIs_str _ _ _,?_⟩
 have fin:∀ t' k,EP X pins σ Q (.str (PySem.Txt.slice z lo hi) t') {s with toks:=k}:=fun t' k=>⟨.str _,H,I.tok k,⟨t',rfl⟩,q⟩
 have hle:(PySem.Txt.slice z lo hi).length<=sizeLine:=Nat.le_trans (PySem.Txt.slice_le z lo hi) hz
 cases pl with
 | none=>
   cases pu with
   | none=>exact wpAny_getItem_str_slice (l:=none) (u:=none) (st:=none) hs rfl (post_val_or_str ⟨hle,fin⟩)
   | int j t2=>exact wpAny_getItem_str_slice (l:=none) (u:=some (j,t2)) (st:=none) hs rfl (post_val_or_str ⟨hle,fin⟩)
 | int i t1=>
   cases pu with
   | none=>exact wpAny_getItem_str_slice (l:=some (i,t1)) (u:=none) (st:=none) hs rfl (post_val_or_str ⟨hle,fin⟩)
   | int j t2=>exact wpAny_getItem_str_slice (l:=some (i,t1)) (u:=some (j,t2)) (st:=none) hs rfl (post_val_or_str ⟨hle,fin⟩)
theorem zZ{ys:List Str}:∀ {us:List Value},cO (ys.map V.str) us->StrsAre us ys:=by
 induction ys with
 | nil=>intro us r;cases r;exact .nil
 | cons y r ih=>
   intro us h
   cases h with
   | cons h1 h2=>
     obtain⟨t,rfl⟩:=h1
     exact .cons y t (ih h2)
noncomputable def bB8(K:PySem.W.Frag):V->List V->Hp->VK->Prop:=fun x vs H Q=>∃ sep a ys,x=.str sep/\vs=[.ref a]/\SqL K H a (ys.map V.str)/\(ys.map (·.length)).sum+ys.length*sep.length<=16777216/\Q (.str (PySem.Txt.join sep ys)) H
theorem bO4:MtR X "str.join" (bB8 X.K):=by
 intro pins s σ H x vs v us Q I rx rv h
 obtain⟨sep,a,ys,rfl,rfl,ha,hz,q⟩:=h
 obtain⟨t,rfl⟩:=rx
 obtain⟨u,rfl,ru⟩:=rv.one
 cases ru
 obtain⟨its,r,p,_⟩:=I.list ha
 exact join_list p.isList (by simpa using zZ r) hz fun t' k=>⟨.str _,H,I.tok k,⟨t',rfl⟩,q⟩
theorem uP:iT X (.builtin "isinstance") (fun xs H Q=>∃ x c t b,xs=[x,.ty c]/\TyOf X.K H x t/\PySem.W.kitOne X.K t (.type c)=some b/\Q (.bl b) H):=by
 intro pins s σ H xs us Q I r h
 obtain⟨x,c,t,b,rfl,ty,e,q⟩:=h
 obtain⟨u,w',rfl,ru,rw'⟩:=bN2 r
 cases (show w'=Value.type c from rw')
 exact aE7 I ru ty e fun tk=>⟨.bl b,H,I.tok tk,rfl,q⟩
end
structure Tag(Q:VK):Type where mk ::
noncomputable def Ask(sp:Sp)(vs:List V)(H:Hp)(E:XK)(Q:VK)(_:Tag Q):Prop:=sp vs H Q E
section
variable{σ:St}{H:Hp}{Q:VK}{v x y:V}{n:Nat}{i j:Int}{a b:Bool}{D:Ends}
theorem aF8{r:St}:aC7 0 (some v::r) H Q=Q v H:=propext ⟨fun⟨_,e,q⟩=>by cases e;exact q,fun q=>⟨_,rfl,q⟩⟩
theorem aF9{o:Option V}{r:St}:aC7 (n+1) (o::r) H Q=aC7 n r H Q:=rfl
theorem cR8:tC v σ H Q=Q v H:=rfl
theorem cC6{r:R2}{ta tb:TE}:tOp r ta tb σ H Q=ta σ H fun x H1=>tb σ H1 fun y H2=>r x y H2 Q:=rfl
theorem cC7{r:V->Hp->VK->Prop}{ta:TE}:tUn r ta σ H Q=ta σ H fun x H1=>r x H1 Q:=rfl
theorem bI5{g:Int->Int->V}:rI0 g (.int i) (.int j) H Q=Q (g i j) H:=propext ⟨fun⟨_,_,e,e',q⟩=>by cases e;cases e';exact q,fun q=>⟨_,_,rfl,rfl,q⟩⟩
theorem bO5{C:Int->Int->Prop}{g:Int->Int->V}(h:C i j):rI C g (.int i) (.int j) H Q=Q (g i j) H:=propext ⟨fun⟨_,_,e,e',_,q⟩=>by cases e;cases e';exact q,fun q=>⟨_,_,rfl,rfl,h,q⟩⟩
theorem cC8{R:Bool->Prop}:(∃ k,V.bl a=V.bl k/\R k)=R a:=propext ⟨fun⟨_,e,q⟩=>by cases e;exact q,fun q=>⟨_,rfl,q⟩⟩
theorem aG0{t:TE}{R:Bool->Hp->Prop}:cB0 t σ H R=t σ H fun x H'=>∃ k,x=.bl k/\R k H':=rfl
theorem cC9{t:TE}{R:Bool->Hp->Prop}:tB t σ H R=t σ H fun x H'=>∃ k,x=.bl k/\R k H':=rfl
theorem bI6{t u:TT}{R:Bool->Hp->Prop}:cR0 t u σ H R=t σ H fun c H1=>if c=true then u σ H1 R else R false H1:=rfl
theorem cD0{t u:TT}{R:Bool->Hp->Prop}:tOr t u σ H R=t σ H fun c H1=>if c=true then R true H1 else u σ H1 R:=rfl
theorem bI7{t:TT}{R:Bool->Hp->Prop}:cR1 t σ H R=t σ H fun c H1=>R (!c) H1:=rfl
theorem aG1{t u:TE}:bZ8 t u σ H Q=t σ H fun x H1=>∃ c,x=.bl c/\if c=true then u σ H1 Q else Q (.bl false) H1:=rfl
theorem bI8{t u:TE}:cT2 t u σ H Q=t σ H fun x H1=>∃ c,x=.bl c/\if c=true then Q (.bl true) H1 else u σ H1 Q:=rfl
theorem aG2{t:TE}:cN0 t σ H Q=t σ H fun x H1=>∃ c,x=.bl c/\Q (.bl (!c)) H1:=rfl
theorem xV{r r':R2}{ta tb tc:TE}:cB1 r r' ta tb tc σ H Q=ta σ H fun x H1=>tb σ H1 fun y H2=>r x y H2 fun z H3=>∃ k,z=.bl k/\if k=true then tc σ H3 (fun u H4=>r' y u H4 Q)else Q (.bl false) H3:=rfl
theorem bI9{t:TT}{ta tb:TE}:tIf t ta tb σ H Q=t σ H fun c H1=>if c=true then ta σ H1 Q else tb σ H1 Q:=rfl
theorem bJ0{t u:TS}:cL2 t u D σ H=t {D with nx:=u D} σ H:=rfl
theorem aG3:cA1 D σ H=D.nx σ H:=rfl
theorem aG4{te:TE}:cA2 te D σ H=te σ H fun _ H1=>D.nx σ H1:=rfl
theorem bJ1{te:TE}:cR2 te D σ H=te σ H D.rt:=rfl
theorem aG5:cN1 D σ H=D.rt .non H:=rfl
theorem bJ2{c:TT}{t u:TS}:cR3 c t u D σ H=c σ H fun b H1=>if b=true then t D σ H1 else u D σ H1:=rfl
theorem bJ3{te:TE}{g:TG}:bH5 te g D σ H=te σ H fun x H1=>g x σ H1 D.nx:=rfl
theorem xW{R:St->Hp->Prop}:qJ n v σ H R=R (σ.set n (some v)) H:=rfl
theorem aG6{to ti:TE}{t:cL3}{R:St->Hp->Prop}:bW8 to ti t v σ H R=to σ H fun o H1=>ti σ H1 fun i H2=>t o i v H2 fun H3=>R σ H3:=rfl
theorem bJ4{R:List V->Hp->Prop}:cN9 σ H R=R [] H:=rfl
theorem aG7{ta:TE}{tr:TA}{R:List V->Hp->Prop}:bB1 ta tr σ H R=ta σ H fun x H1=>tr σ H1 fun xs H2=>R (x::xs) H2:=rfl
theorem aG8{sp:Sp}{E:XK}{t:TA}:zR sp [] E t σ H Q=t σ H fun vs H1=>Ask sp vs H1 E Q ⟨⟩:=by
 unfold zR Ask;simp only[List.append_nil]
theorem cD1{r:List V->Hp->VK->Prop}{t:TA}:tCB r t σ H Q=t σ H fun vs H1=>r vs H1 Q:=rfl
theorem cD2{r:V->Option Int->Option Int->Hp->VK->Prop}{te:TE}{tl th:TO}:tSl r te tl th σ H Q=te σ H fun x H1=>tl σ H1 fun l H2=>th σ H2 fun u H3=>r x l u H3 Q:=rfl
theorem sK{R:Option Int->Hp->Prop}:aF1 σ H R=R none H:=rfl
theorem aG9{t:TE}{R:Option Int->Hp->Prop}:cB5 t σ H R=t σ H fun x H1=>∃ i,x=.int i/\R (some i) H1:=rfl
theorem aH0{R:Bool->Hp->Prop}:cC4 σ H R=R true H:=rfl
end
noncomputable def fP(H:Hp)(p:Addr):Option (Bool×List V):=match H p with
 | some (.lst xs)=>some (true,xs)
 | some (.tup xs)=>some (false,xs)
 | some (.frz _ (.lst xs))=>some (true,xs)
 | _=>none
theorem mV{H:Hp}{p:Addr}{xs:List V}(h:H p=some (.lst xs)):fP H p=some (true,xs):=by unfold fP;rw[h]
theorem dI{H:Hp}{p:Addr}{xs:List V}(h:H p=some (.tup xs)):fP H p=some (false,xs):=by unfold fP;rw[h]
theorem bB9{H:Hp}{p:Addr}{o:Obj}{xs:List V}(h:H p=some (.frz o (.lst xs))):fP H p=some (true,xs):=by unfold fP;rw[h]
theorem fD{K:PySem.W.Frag}{H:Hp}{p:Addr}{xs:List V}(h:fP H p=some (true,xs)):SqL K H p xs:=by
 unfold fP at h
 split at h
 ·rename_i e;cases h;exact .inl (.inl e)
 ·cases h
 ·rename_i o ys e;cases h;exact .inl (.inr ⟨o,e⟩)
 ·cases h
theorem eK{K:PySem.W.Frag}{H:Hp}{p:Addr}{xs:List V}(h:fP H p=some (false,xs)):SqT K H p xs:=by
 unfold fP at h
 split at h
 ·cases h
 ·rename_i e;cases h;exact .inl (.inl e)
 ·cases h
 ·cases h
noncomputable def ixF(H:Hp)(x y:V):Option V:=match x,y with
 | .ref p,.int i=>(fP H p).bind fun q=>atI q.2 i
 | .str z,.int i=>if z.length<=sizeLine then(atI z.cps.toList i).map fun c=>.str ⟨#[c]⟩else none
 | _,_=>none
noncomputable def cD3(H:Hp)(x:V):Option Nat:=match x with
 | .ref p=>(fP H p).map (·.2.length)
 | .str z=>if z.length<=sizeLine then some z.length else none
 | _=>none
noncomputable def cR9:R2:=fun x y H Q=>∃ v,ixF H x y=some v/\Q v H
section
variable{X:Cx}
theorem cU3:IxR X cR9:=by
 intro value slice pins s σ H x y v u Q I rx ry h hs
 obtain⟨z,e,q⟩:=h
 unfold ixF at e
 split at e
 ·rename_i p i
  cases hq:fP H p with
  | none=>rw[hq]at e;cases e
  | some w=>
    obtain⟨b,xs⟩:=w
    rw[hq]at e
    cases b with
    | true=>exact bN7 value slice pins s σ H _ _ v u Q I rx ry ⟨p,xs,i,z,rfl,rfl,fD hq,e,q⟩ hs
    | false=>exact cB7 value slice pins s σ H _ _ v u Q I rx ry ⟨p,xs,i,z,rfl,rfl,eK hq,e,q⟩ hs
 ·rename_i t i
  split at e
  ·rename_i hz
   cases hc:atI t.cps.toList i with
   | none=>rw[hc]at e;cases e
   | some c=>
     rw[hc]at e
     cases e
     exact cB8 value slice pins s σ H _ _ v u Q I rx ry ⟨t,i,c,rfl,rfl,hz,hc,q⟩ hs
  ·cases e
 ·cases e
noncomputable def bC0:List V->Hp->VK->Prop:=fun xs H Q=>∃ x n,xs=[x]/\cD3 H x=some n/\Q (.int n) H
theorem bB:iT X (.builtin "len") bC0:=by
 intro pins s σ H xs us Q I r h
 obtain⟨x,n,rfl,e,q⟩:=h
 unfold cD3 at e
 split at e
 ·rename_i p
  cases hq:fP H p with
  | none=>rw[hq]at e;cases e
  | some w=>
    obtain⟨b,xs⟩:=w
    rw[hq]at e
    cases e
    cases b with
    | true=>exact lX pins s σ H _ us Q I r ⟨p,xs,rfl,.inl (fD hq),q⟩
    | false=>exact lX pins s σ H _ us Q I r ⟨p,xs,rfl,.inr (eK hq),q⟩
 ·rename_i z
  split at e
  ·rename_i hz
   cases e
   exact sF pins s σ H _ us Q I r ⟨z,rfl,hz,q⟩
  ·cases e
 ·cases e
noncomputable def cS0:V->Option Int->Option Int->Hp->VK->Prop:=fun x lo hi H Q=>match x with
 | .str z=>z.length<=sizeLine/\Q (.str (PySem.Txt.slice z lo hi)) H
 | .ref p=>(∃ xs,fP H p=some (true,xs)/\∀ r,H r=none->Q (.ref r) (upd H r (.lst (uJ xs lo hi)))) \/
   ∃ xs,fP H p=some (false,xs)/\¬ (HT.sIx xs.length 0 lo=0/\HT.sIx xs.length xs.length hi=xs.length)/\∀ r,H r=none->Q (.ref r) (upd H r (.tup (uJ xs lo hi)))
 | _=>False
theorem cO7:SlR X cS0:=by
 intro pins s σ H x v vl vu lo hi sl Q I rx hs pl pu h
 unfold cS0 at h
 split at h
 ·rename_i z
  exact cC5 pins s σ H _ v vl vu lo hi sl Q I rx hs pl pu ⟨z,rfl,h.1,h.2⟩
 ·rename_i p
  rcases h with⟨xs,hq,q⟩ | ⟨xs,hq,hw,q⟩
  ·exact bN8 pins s σ H _ v vl vu lo hi sl Q I rx hs pl pu ⟨p,xs,rfl,fD hq,q⟩
  ·exact cB6 pins s σ H _ v vl vu lo hi sl Q I rx hs pl pu ⟨p,xs,rfl,eK hq,hw,q⟩
 ·exact h.elim
noncomputable def cO8(K:PySem.W.Frag)(tl:TE):TI:=fun σ H R=>tl σ H fun x H1=>match x with
 | .str z=>R (Its z) H1
 | .ref p=>(∃ xs,fP H1 p=some (true,xs)/\R (Itl K p) H1)\/∃ xs,fP H1 p=some (false,xs)/\R (Itt K p) H1
 | _=>False
theorem cD4{tg l:Expr}{tl:TE}(hl:PE X l tl):PI X tg l (cO8 X.K tl):=by
 intro pins s σ H R I h
 refine thn (hl pins s σ H _ I h) fun v s1 ⟨x,H1,I1,r1,q1⟩=>?_
 dsimp only at q1
 split at q1
 ·rename_i x
  obtain⟨t,rfl⟩:=r1
  cases ha:x.cps.all (· < 128)with
  | true=>
    refine wpAny_pyIter_ascii ha ?_
    refine⟨s1.heap.objs.size,[s1.heap.objs.size],_,_,H1,rfl,I1.kept (t':=s1.toks) fun b o e=>Heap.get?_push_of_some _ e,xU x t _ _ (.inl rfl),⟨_,Heap.get?_push_size _ rfl,rfl,rfl⟩,fun b hb=>?_,q1⟩
    have e:b=s1.heap.objs.size:=by simpa using hb
    subst e
    exact I1.fpOk (Nat.le_refl _) (I1.hok.fresh (Nat.le_refl _))
  | false=>
    refine wpAny_pyIter_wide ha ?_
    refine⟨s1.heap.objs.size,[s1.heap.objs.size],_,_,H1,rfl,I1.kept (t':=s1.toks) fun b o e=>Heap.get?_push_of_some _ e,xU x t _ _ (.inr rfl),⟨_,Heap.get?_push_size _ rfl,rfl,rfl⟩,fun b hb=>?_,q1⟩
    have e:b=s1.heap.objs.size:=by simpa using hb
    subst e
    exact I1.fpOk (Nat.le_refl _) (I1.hok.fresh (Nat.le_refl _))
 ·rename_i a
  cases r1
  rcases q1 with⟨xs,hq,q⟩ | ⟨xs,hq,q⟩
  ·obtain⟨its,rv,p,hz⟩:=I1.list (fD hq)
   refine wpAny_pyIter_list p.isList ?_
   refine⟨s1.heap.objs.size,[s1.heap.objs.size],_,_,H1,rfl,I1.kept (t':=s1.toks) fun b o e=>Heap.get?_push_of_some _ e,aD8 a _,⟨_,Heap.get?_push_size _ rfl,rfl,rfl⟩,fun b hb=>?_,q⟩
   have e:b=s1.heap.objs.size:=by simpa using hb
   subst e
   exact I1.fpOk (Nat.le_refl _) (I1.hok.fresh (Nat.le_refl _))
  ·obtain⟨its,rv,p,hz⟩:=I1.tuple (eK hq)
   refine wpAny_pyIter_tuple (show s1.heap.IsTuple a its.toArray from p) ?_
   refine⟨s1.heap.objs.size,[s1.heap.objs.size],_,_,H1,rfl,I1.kept (t':=s1.toks) fun b o e=>Heap.get?_push_of_some _ e,zM a _,⟨_,Heap.get?_push_size _ rfl,rfl,rfl⟩,fun b hb=>?_,q⟩
   have e:b=s1.heap.objs.size:=by simpa using hb
   subst e
   exact I1.fpOk (Nat.le_refl _) (I1.hok.fresh (Nat.le_refl _))
 ·exact q1.elim
noncomputable def bJ5(N:List Str)(sc scope:Scope)(own:List Nat):Bool:=
 (match scope.kind with | .function=>true | _=>false) &&
 scope.names.all (fun y=>match y.2 with
  | .cell=>(match scope.names.lookup y.1 with | some .cell=>true | _=>false)
  | .local=>(match scope.names.lookup y.1 with | some .local=>true | _=>false)
  | .free=>(match sc.names.lookup y.1 with | some .cell=>true | some .free=>true | _=>false)
  | _=>true) &&
 (List.range N.length).all fun i=>match N[i]? with
  | some x=>(match scope.names.lookup x with | some .local=>own.contains i | some .cell=>own.contains i | _=>true)
  | none=>true
theorem csc{scope:Scope}(own:List Nat)(h:bJ5 X.N X.env.scope scope own=true)(hc:X.calm=true:=by rfl):CompScope X scope own:=by
 unfold bJ5 at h
 rw[Bool.and_eq_true,Bool.and_eq_true]at h
 obtain⟨⟨h1,h2⟩,h3⟩:=h
 rw[List.all_eq_true]at h2 h3
 refine⟨?_,fun y hy e=>?_,fun y hy e=>?_,fun y hy e=>?_,fun i x e1 e2=>?_,hc⟩
 ·revert h1;cases scope.kind<;>simp
 ·have:=h2 y hy;rw[e]at this
  dsimp only at this
  split at this
  ·assumption
  ·cases this
 ·have:=h2 y hy;rw[e]at this
  dsimp only at this
  split at this
  ·assumption
  ·cases this
 ·have:=h2 y hy;rw[e]at this
  dsimp only at this
  show X.env.scope.names.lookup y.1=some .cell\/X.env.scope.names.lookup y.1=some .free
  split at this
  ·rename_i q;exact .inl q
  ·rename_i q;exact .inr q
  ·cases this
 ·have hi:i < X.N.length:=(List.getElem?_eq_some_iff.mp e1).1
  have:=h3 i (List.mem_range.mpr hi)
  rw[e1]at this
  dsimp only at this
  rcases e2 with e2 | e2<;>rw[e2]at this<;>simpa using this
end
structure ItIs(J:It)(xs:List V)(P:Hp->Prop):Prop where
 go:∀ H i x,P H->xs[i]? = some x->J.go i H
 yld:∀ H i x y H',P H->xs[i]? = some x->J.yld i H y H'->H'=H/\y=x
 stop:∀ H i,P H->xs[i]? = none->J.stop i H
theorem sL{K:PySem.W.Frag}{a:Addr}{xs:List V}:ItIs (Itl K a) xs (fun H=>SqL K H a xs) where
 go:=fun H i x h e=>⟨xs,x,h,e⟩
 yld:=fun H i x y H' h e ⟨e1,e2⟩=>⟨e1,by have:=e2 xs h;rw[e]at this;exact(Option.some.inj this).symm⟩
 stop:=fun H i h e=>⟨xs,h,List.getElem?_eq_none_iff.mp e⟩
theorem bC1{K:PySem.W.Frag}{a:Addr}{xs:List V}:ItIs (Itt K a) xs (fun H=>SqT K H a xs) where
 go:=fun H i x h e=>⟨xs,x,h,e⟩
 yld:=fun H i x y H' h e ⟨e1,e2⟩=>⟨e1,by have:=e2 xs h;rw[e]at this;exact(Option.some.inj this).symm⟩
 stop:=fun H i h e=>⟨xs,h,List.getElem?_eq_none_iff.mp e⟩
noncomputable def bO6(lo:Int)(n:Nat):List V:=(List.range n).map fun(i:Nat)=>V.int (lo+(i:Int))
theorem kK{lo:Int}{n i:Nat}{x:V}(h:(bO6 lo n)[i]? = some x):i < n/\x=.int (lo+i):=by
 unfold bO6 at h
 rw[List.getElem?_map]at h
 cases e:(List.range n)[i]? with
 | none=>rw[e]at h;cases h
 | some k=>
   rw[e]at h
   obtain⟨hi,hk⟩:=List.getElem?_eq_some_iff.mp e
   rw[List.length_range]at hi
   rw[List.getElem_range]at hk
   subst hk
   exact⟨hi,(Option.some.inj h).symm⟩
theorem eW(lo:Int)(n:Nat):(bO6 lo n).length=n:=by simp[bO6]
theorem kL{lo:Int}{n:Nat}{P:Hp->Prop}:ItIs (Itr lo n) (bO6 lo n) P where
 go:=fun H i x _ e=>(kK e).1
 yld:=fun H i x y H' _ e ⟨e1,e2⟩=>⟨e1,by rw[(kK e).2];exact e2⟩
 stop:=fun H i _ e=>by
  have:=List.getElem?_eq_none_iff.mp e
  rw[eW]at this
  exact this
noncomputable def fE(x:Str):List V:=x.cps.toList.map fun c=>.str ⟨#[c]⟩
theorem fT(x:Str):(fE x).length=x.length:=by simp[fE,Str.length]
theorem bC2{x:Str}{P:Hp->Prop}:ItIs (Its x) (fE x) P where
 go:=fun H i v _ e=>by
  unfold fE at e
  rw[List.getElem?_map]at e
  cases q:x.cps.toList[i]? with
  | none=>rw[q]at e;cases e
  | some c=>exact⟨c,by simpa using q⟩
 yld:=fun H i v y H' _ e ⟨e1,c,e2,e3⟩=>⟨e1,by
  unfold fE at e
  rw[List.getElem?_map]at e
  have q:x.cps.toList[i]? = some c:=by simpa using e2
  rw[q]at e
  cases e
  exact e3⟩
 stop:=fun H i _ e=>by
  have h1:=List.getElem?_eq_none_iff.mp e
  rw[fT]at h1
  show x.cps[i]? = none
  rw[Array.getElem?_eq_none_iff]
  exact h1
theorem uQ{J:It}{xs:List V}{P:Hp->Prop}(w:ItIs J xs P){own:List Nat}{g:TG}{tt:TT}{te:TE}{σ:St}{H1:Hp}{F:List V->Hp->Prop}(Pv:Nat->List V->Hp->Prop)(h0:Pv 0 [] H1)
  (hP:∀ i ys H,Pv i ys H->P H/\ys.length<=i) (hn:xs.length<=sizeLine)
  (step:∀ i x ys H (N:List V->Hp->Prop),xs[i]? = some x->Pv i ys H->(∀ ys' H',Pv (i+1) ys' H'->N ys' H')->g x (blank own σ) H fun σ2 H2=>tt σ2 H2 fun b H3=>if b=true then te σ2 H3 fun v H4=>N (ys++[v]) H4 else N ys H3)
  (fin:∀ ys H,Pv xs.length ys H->F ys H) :
  ∃ W:Nat->Nat->List V->Hp->Prop,(∃ m,W 0 m [] H1)/\∀ i m ys H,W i m ys H->ys.length<=sizeLine /\
  ((J.stop i H/\F ys H)\/(J.go i H/\∀ x H',J.yld i H x H'->g x (blank own σ) H' fun σ2 H2=>tt σ2 H2 fun b H3=>
    if b=true then te σ2 H3 fun v H4=>∃ m',m' < m/\W (i+1) m' (ys++[v]) H4 else ∃ m',m' < m/\W (i+1) m' ys H3)):=by
 refine⟨fun i m ys H=>m=xs.length-i/\i<=xs.length/\Pv i ys H,⟨xs.length,by simp,Nat.zero_le _,h0⟩,?_⟩
 rintro i m ys H ⟨rfl,hi,p⟩
 obtain⟨hp,hl⟩:=hP i ys H p
 refine⟨by omega,?_⟩
 by_cases hlt:i < xs.length
 ·have e:xs[i]? = some xs[i]:=List.getElem?_eq_getElem hlt
  refine .inr ⟨w.go H i _ hp e,fun x H' y=>?_⟩
  obtain⟨rfl,rfl⟩:=w.yld H i _ x H' hp e y
  exact step i _ ys H' (fun ys' H4=>∃ m',m' < xs.length-i/\m'=xs.length-(i+1)/\i+1<=xs.length/\Pv (i+1) ys' H4) e p fun ys' H4 q=>⟨xs.length-(i+1),by omega,rfl,hlt,q⟩
 ·have e:i=xs.length:=by omega
  subst e
  exact .inl ⟨w.stop H _ hp (List.getElem?_eq_none_iff.mpr (Nat.le_refl _)),fin ys H p⟩
theorem cD5{J:It}{xs:List V}{P:Hp->Prop}(w:ItIs J xs P){g:TG}{tb:TS}{D:Ends}{σ:St}{H:Hp}(Pv:Nat->St->Hp->Prop)(h0:Pv 0 σ H)(hP:∀ i σ H,Pv i σ H->P H)
  (hs:∀ i x σ H,xs[i]? = some x->Pv i σ H->g x σ H fun σ2 H2=>tb {D with nx:=Pv (i+1),ct:=Pv (i+1),bk:=D.nx} σ2 H2) (hd:∀ σ H,Pv xs.length σ H->D.nx σ H) :
  ∃ W:Nat->Nat->St->Hp->Prop,(∃ m,W 0 m σ H)/\∀ i m σ H,W i m σ H ->
    (J.stop i H/\D.nx σ H)\/(J.go i H/\∃ N:St->Hp->Prop,(∀ σ' H',N σ' H'->∃ m',m' < m/\W (i+1) m' σ' H')/\∀ x H',J.yld i H x H'->g x σ H' fun σ2 H2=>tb {D with nx:=N,ct:=N,bk:=D.nx} σ2 H2):=by
 refine⟨fun i m σ H=>m=xs.length-i/\i<=xs.length/\Pv i σ H,⟨xs.length,by simp,Nat.zero_le _,h0⟩,?_⟩
 rintro i m σ H ⟨rfl,hi,p⟩
 have q:=hP i σ H p
 by_cases hlt:i < xs.length
 ·have e:xs[i]? = some xs[i]:=List.getElem?_eq_getElem hlt
  refine .inr ⟨w.go H i _ q e,Pv (i+1),fun σ' H' p'=>⟨xs.length-(i+1),by omega,rfl,hlt,p'⟩,fun x H' y=>?_⟩
  obtain⟨rfl,rfl⟩:=w.yld H i _ x H' q e y
  exact hs i _ σ _ e p
 ·have e:i=xs.length:=by omega
  subst e
  exact .inl ⟨w.stop H _ q (List.getElem?_eq_none_iff.mpr (Nat.le_refl _)),hd σ H p⟩
section
variable{σ:St}{H:Hp}{Q:VK}{z:Str}{p q:Addr}{xs ys:List V}{i j:Int}{b:Bool}{v x y:V}
theorem bC3(h:z.length<=sizeLine):cD3 H (.str z)=some z.length:=by show(if z.length<=sizeLine then some z.length else none)=_;rw[if_pos h]
theorem qQ(h:fP H p=some (b,xs)):cD3 H (.ref p)=some xs.length:=by show(fP H p).map (·.2.length)=_;rw[h];rfl
theorem cD6{n:Nat}(h:cD3 H x=some n):bC0 [x] H Q=Q (.int n) H:=
 propext ⟨fun⟨x',n',e,f,q⟩=>by cases e;rw[h]at f;cases f;exact q,fun q=>⟨_,n,rfl,h,q⟩⟩
theorem pJ(h:fP H p=some (b,xs)):bC0 [.ref p] H Q=Q (.int xs.length) H:=cD6 (qQ h)
theorem aH1(h:fP H p=some (b,xs))(e:atI xs i=some v):ixF H (.ref p) (.int i)=some v:=by show(fP H p).bind (fun q=>atI q.2 i)=_;rw[h];exact e
theorem bO7{c:Nat}(h:z.length<=sizeLine)(e:atI z.cps.toList i=some c):ixF H (.str z) (.int i)=some (.str ⟨#[c]⟩):=by
 show(if z.length<=sizeLine then(atI z.cps.toList i).map fun c=>V.str ⟨#[c]⟩else none)=_;rw[if_pos h,e];rfl
end
section
variable{σ:St}{H:Hp}{Q:VK}{p:Addr}{xs:List V}{k:Int}{j:Nat}{v:V}
theorem bO8{sp:Sp}{vs:List V}{E:XK}{t:Tag Q}(h:sp vs H Q E):Ask sp vs H E Q t:=h
theorem aH2{α:Type}{ys:List α}{i:Int}(h0:0<=i)(h1:i < ys.length):∃ c,atI ys i=some c:=by
 obtain⟨n,rfl⟩:=Int.eq_ofNat_of_zero_le h0
 have hn:n < ys.length:=by omega
 exact⟨ys[n],aF2 (List.getElem?_eq_getElem hn)⟩
end
end L2
namespace L2
open PySem
theorem cD7{i j:Int}{g:Int->Int->V}{H:Hp}{Q:VK}(h:0 < j):rI (fun _ j=>0 < j) g (.int i) (.int j) H Q=Q (g i j) H:=bO5 h
theorem bJ6{t:TA}{σ:St}{H:Hp}{Q:VK}:cR7 t σ H Q=t σ H fun xs H1=>xs.length<=sizeLine/\∀ p,H1 p=none->Q (.ref p) (upd H1 p (.lst xs)):=rfl
theorem bJ7{t:TA}{σ:St}{H:Hp}{Q:VK}:cR6 t σ H Q=t σ H fun xs H1=>xs.length<=sizeLine/\∀ p,H1 p=none->Q (.ref p) (upd H1 p (.tup xs)):=rfl
theorem cD8{K:PySem.W.Frag}{T:String}{r:V->List V->Hp->VK->Prop}{to:TE}{t:TA}{σ:St}{H:Hp}{Q:VK}:tBM K T r to t σ H Q=to σ H fun x H1=>tyV K T x H1/\t σ H1 fun xs H2=>r x xs H2 Q:=rfl
theorem aH3{α β:Type}{f:α->β}{ys:List α}{i:Int}:atI (ys.map f) i=(atI ys i).map f:=by
 unfold atI
 rw[List.length_map]
 cases ixN ys.length i with
 | none=>rfl
 | some j=>simp
theorem bV{H:Hp}{p:Addr}{o:HO}(h:H p=none):uN H (upd H p o):=fun b u e=>by rw[aK (bL e h)];exact e
noncomputable def cO9(own:List Nat)(g:TG)(tt:TT)(te:TE)(σ:St)(J:It)(H1:Hp)(F:List V->Hp->Prop):Prop:=
 ∃ W:Nat->Nat->List V->Hp->Prop,(∃ m,W 0 m [] H1)/\∀ i m ys H,W i m ys H->ys.length<=sizeLine /\
   ((J.stop i H/\F ys H)\/(J.go i H/\∀ x H',J.yld i H x H'->g x (blank own σ) H' fun σ2 H2=>tt σ2 H2 fun b H3=>
     if b=true then te σ2 H3 fun v H4=>∃ m',m' < m/\W (i+1) m' (ys++[v]) H4 else ∃ m',m' < m/\W (i+1) m' ys H3))
noncomputable def cU4(g:TG)(tb:TS)(D:Ends)(σ:St)(J:It)(H1:Hp):Prop:=∃ W:Nat->Nat->St->Hp->Prop,(∃ m,W 0 m σ H1)/\∀ i m σ H,W i m σ H ->
 (J.stop i H/\D.nx σ H)\/(J.go i H/\∃ N:St->Hp->Prop,(∀ σ' H',N σ' H'->∃ m',m' < m/\W (i+1) m' σ' H')/\∀ x H',J.yld i H x H'->g x σ H' fun σ2 H2=>tb {D with nx:=N,ct:=N,bk:=D.nx} σ2 H2)
theorem aH4{own:List Nat}{wi:TI}{g:TG}{tt:TT}{te:TE}{σ:St}{H:Hp}{Q:VK}:zX own wi g tt te σ H Q=wi σ H fun J H1=>cO9 own g tt te σ J H1 fun ys H'=>∀ p,H' p=none->Q (.ref p) (upd H' p (.lst ys)):=rfl
theorem bJ8{wi:TI}{g:TG}{tb:TS}{D:Ends}{σ:St}{H:Hp}:cL5 wi g tb D σ H=wi σ H fun J H1=>cU4 g tb D σ J H1:=rfl
noncomputable def bO9(K:PySem.W.Frag)(x:V)(H1:Hp)(R:It->Hp->Prop):Prop:=match x with
 | .str z=>R (Its z) H1
 | .ref p=>(∃ xs,fP H1 p=some (true,xs)/\R (Itl K p) H1)\/∃ xs,fP H1 p=some (false,xs)/\R (Itt K p) H1
 | _=>False
theorem aH5{K:PySem.W.Frag}{tl:TE}{σ:St}{H:Hp}{R:It->Hp->Prop}:cO8 K tl σ H R=tl σ H fun x H1=>bO9 K x H1 R:=rfl
theorem xX{K:PySem.W.Frag}{z:Str}{H:Hp}{R:It->Hp->Prop}:bO9 K (.str z) H R=R (Its z) H:=rfl
theorem bC4{K:PySem.W.Frag}{p:Addr}{xs:List V}{H:Hp}{R:It->Hp->Prop}(h:fP H p=some (true,xs)):bO9 K (.ref p) H R=R (Itl K p) H:=
 propext ⟨fun q=>by
  rcases q with⟨_,_,q⟩ | ⟨_,e,_⟩
  ·exact q
  ·rw[h]at e
   exact(nomatch e),fun q=>.inl ⟨xs,h,q⟩⟩
theorem aH6{ta:TA}{σ:St}{H:Hp}{R:It->Hp->Prop}:bM7 ta σ H R=ta σ H fun vs H1=>∃ j:Int,vs=[.int j] /\ -(2 ^ 62)<=j/\j < 2 ^ 62/\R (Itr 0 j.toNat) H1:=rfl
theorem aH7{ta:TA}{σ:St}{H:Hp}{R:It->Hp->Prop}:bM8 ta σ H R=ta σ H fun vs H1=>∃ i j:Int,vs=[.int i,.int j]/\(-(2 ^ 62)<=i/\i < 2 ^ 62 /\ -(2 ^ 62)<=j/\j < 2 ^ 62)/\R (Itr i (j-i).toNat) H1:=rfl
theorem sM{σ:St}:blank [] σ=σ:=rfl
theorem sN{i:Nat}{r:List Nat}{σ:St}:blank (i::r) σ=blank r (σ.set i none):=rfl
theorem xY{i j:Int}:decide (V.int i=V.int j)=decide (i=j):=by
 by_cases h:i=j
 ·subst h;simp
 ·rw[decide_eq_false h,decide_eq_false fun e=>h (V.int.inj e)]
theorem bP0(sep:Str)(ys:List Str):(PySem.Txt.join sep ys).length<=(ys.map (·.length)).sum+ys.length*sep.length:=by
 show(PySem.Builtin.Str.glued sep ys).length<=_
 rw[StrLaws.glued_eq_join]
 exact StrLaws.join_length_le sep ys
end L2
namespace L2
theorem up{p q:Prop}(h:p=q)(hq:q):p:=by rw[h];exact hq
theorem bC5{K:PySem.W.Frag}{t:String}:PySem.W.kitOne K (.type t) (.type t)=some true:=by
 unfold PySem.W.kitOne
 rw[if_pos (by simp)]
open PySem PySem.Spec PyProof.Rows
section
variable{prog:Program}{w:World}{A:Around}{E:Value->Shared->Prop}
theorem nI{it:Addr}{x:Str}{t:Tok}{ty:String}(hty:ty="str_ascii_iterator"\/ty="str_iterator"):∀ (n i:Nat) (s:Shared) (Q:List Value->Shared->Prop),s.heap.IsStrIter it ty x t i->i+n<=x.length ->
  (∀ h' tk us,h'.IsStrIter it ty x t (i+n)->Heap.SameBut it s.heap h'->cO (((fE x).drop i).take n) us->Q us {s with heap:=h',toks:=tk})->wpAny (model prog w) A (draw (.ref it) n) Q E s
 | 0,i,s,Q,hit,_,hQ=>by
   show wpAny _ _ (pure []) Q E s
   exact wpAny_pure (by simpa using hQ s.heap s.toks [] hit (Heap.SameBut.refl ..) (by simpa using(.nil:cO [] [])))
 | n+1,i,s,Q,hit,hle,hQ=>by
   have hlt:i < x.cps.size:=by have:x.length=x.cps.size:=rfl;omega
   have hx:x.cps[i]? = some x.cps[i]:=by simp[hlt]
   have hd:(fE x).drop i=V.str ⟨#[x.cps[i]]⟩::(fE x).drop (i+1):=by
    rw[List.drop_eq_getElem_cons (by rw[fT];exact hlt)]
    congr 1
    simp[fE]
   show wpAny _ _ (pyNext (.ref it) >>= _) Q E s
   have go:∀ h₁,h₁.IsStrIter it ty x t (i+1)->Heap.SameBut it s.heap h₁ ->
     wpAny (model prog w) A (match (some (Value.str ⟨#[x.cps[i]]⟩ s.toks))with | none=>pure [] | some v=>do return v::(← holding [v] (draw (.ref it) n))) Q E {s with heap:=h₁,toks:=s.toks+1}:=fun h₁ hit₁ hs₁=>by
    refine wpAny_bind (wpAny_holding (nI hty n (i+1) _ _ hit₁ (by omega) fun h₂ tk us hit₂ hs₂ hv=>wpAny_pure ?_))
    refine hQ h₂ tk _ (by rw[show i+(n+1)=i+1+n by omega];exact hit₂) (hs₁.trans hs₂) ?_
    rw[hd,List.take_succ_cons]
    exact .cons ⟨_,rfl⟩ hv
   rcases hty with rfl | rfl
   ·exact wpAny_bind (wpAny_pyNext_ascii_item hit hx fun h₁ hit₁ hs₁=>go h₁ hit₁ hs₁)
   ·exact wpAny_bind (wpAny_pyNext_wide_item hit hx fun h₁ hit₁ hs₁=>go h₁ hit₁ hs₁)
theorem qR{s:Shared}{x:Str}{t:Tok}{targets:List (Bool×(Value->Sem Unit))}{Q:Unit->Shared->Prop}(hh:A.handled=none)
  (hn:targets.length=x.length) (hstar:targets.findIdx? (·.1)=none)
  (h:∀ h' tk us,Heap.ExtBut s.heap.objs.size s.heap h'->cO (fE x) us->wpAny (model prog w) A (assignInOrder (targets.map (·.2)) us) Q E {s with heap:=h',toks:=tk}) :
  wpAny (model prog w) A (unpack (.str x t) targets) Q E s:=by
 unfold unpack
 rw[hn,hstar]
 refine wpAny_bind (wpAny_holding ?_)
 unfold unpackItems
 refine wpAny_bind ?_
 unfold notIterableAtAll
 refine wpAny_bind (wpAny_specialOf (typeIs_str _ _ _) PySem.F.slot_str_iter.lookup ?_)
 refine wpAny_pure ?_
 simp only[Bool.false_eq_true,if_false]
 have go:∀ ty,(ty="str_ascii_iterator"\/ty="str_iterator")->wpAny (model prog w) A (do
   let items ← holding [Value.ref s.heap.objs.size] (draw (.ref s.heap.objs.size) x.length)
   if items.length < x.length then
    rule "unpack.too-few";raiseError "ValueError" s!"not enough values to unpack (expected {x.length}, got {items.length})"
   if(← holding items (pyNext (.ref s.heap.objs.size))).isSome then
    rule "unpack.too-many";raiseError "ValueError" s!"too many values to unpack (expected {x.length})"
   return items:Sem (List Value)) (fun us s'=>wpAny (model prog w) A (assignInOrder (targets.map (·.2)) us) Q E s') E {s with heap:=s.heap.push {cls:=.type ty,data:=.fields #[.str x t,.int 0 0]}}:=by
  intro ty hty
  refine wpAny_bind (wpAny_holding (nI (it:=s.heap.objs.size) (x:=x) (t:=t) hty x.length 0 _ _ ⟨_,Heap.get?_push_size _ rfl,rfl,rfl⟩ (by omega) fun h₁ tk us hit₁ hs₁ hv=>?_))
  have hv':cO (fE x) us:=by
   have e:((fE x).drop 0).take x.length=fE x:=by
    rw[List.drop_zero];exact List.take_of_length_le (by rw[fT];exact Nat.le_refl _)
   rw[e]at hv
   exact hv
  have hl:us.length=x.length:=by rw[← hv'.length,fT]
  rw[if_neg (by omega)]
  have hend:x.cps[x.length]? = none:=by simp[Str.length]
  rw[Nat.zero_add]at hit₁
  have fin:∀ h₂,Heap.ExtBut s.heap.objs.size h₁ h₂->wpAny (model prog w) A (do
    if(none:Option Value).isSome then
     rule "unpack.too-many";raiseError "ValueError" s!"too many values to unpack (expected {x.length})"
    return us:Sem (List Value)) (fun us s'=>wpAny (model prog w) A (assignInOrder (targets.map (·.2)) us) Q E s') E {s with heap:=h₂,toks:=tk}:=by
   intro h₂ he₂
   simp only[Option.isSome_none,Bool.false_eq_true,if_false]
   exact wpAny_pure (h h₂ tk us (fun b o hb e=>he₂ b o hb (hs₁.extBut b o hb (Heap.get?_push_of_some _ e))) hv')
  rcases hty with rfl | rfl
  ·exact wpAny_bind (wpAny_holding (wpAny_pyNext_ascii_end hh hit₁ hend fun h₂ he₂=>fin h₂ he₂))
  ·exact wpAny_bind (wpAny_holding (wpAny_pyNext_wide_end hh hit₁ hend fun h₂ he₂=>fin h₂ he₂))
 cases ha:x.cps.all (· < 128)with
 | true=>exact wpAny_bind (wpAny_holding (wpAny_pyIter_ascii ha (go _ (.inl rfl))))
 | false=>exact wpAny_bind (wpAny_holding (wpAny_pyIter_wide ha (go _ (.inr rfl))))
end
section
variable{X:Cx}{pos:Pos}
noncomputable def uR(K:PySem.W.Frag)(n:Nat)(t:TGs):TG:=fun v σ H Q=>match v with
 | .str z=>z.length=n/\t (fE z) σ H Q
 | .ref a=>∃ xs,fP H a=some (false,xs)/\xs.length=n/\t xs σ H Q
 | _=>False
theorem bP1{es:List Expr}{k:Nat}{t:TGs}{n:Nat}(hc:X.calm=true)(h:PGs X es t)
  (hn:(assignEach es X.env).length=n:=by rfl) (hst:(assignEach es X.env).findIdx? (·.1)=none:=by rfl):PG X (.Tuple es k pos) (uR X.K n t):=by
 intro pins s σ H v u Q I r hw
 unfold uR at hw
 split at hw
 ·rename_i z
  obtain⟨hl,hw⟩:=hw
  obtain⟨tk,rfl⟩:=r
  rw[assign_Tuple]
  refine wpAny_bind (wpAny_standAt (qR (I.ok.hd hc) (hn.trans hl.symm) hst fun h' tk us hx hv=>?_))
  have I1:Inv X pins σ H {s with heap:=h',toks:=tk}:=I.kept fun b o e=>hx b o (Nat.ne_of_lt (Heap.lt_size e)) e
  exact h pins _ σ H _ _ Q I1 hv hw
 ·rename_i a
  obtain⟨xs,hq,hl,hw⟩:=hw
  exact cA3 (k:=k) (pos:=pos) hc h hn hst pins s σ H _ u Q I r ⟨a,xs,rfl,eK hq,hl,hw⟩
 ·exact hw.elim
end
section
variable{X:Cx}
noncomputable def bJ9:List V->Hp->VK->Prop:=fun xs H Q=>∃ p b ys,xs=[.ref p]/\fP H p=some (b,ys)/\∀ l,H l=none->Q (.ref l) (upd H l (.lst ys))
theorem fV:iT X (.type "list") bJ9:=by
 intro pins s σ H xs us Q I r h
 obtain⟨p,b,ys,rfl,hq,q⟩:=h
 cases b with
 | true=>exact lY pins s σ H _ us Q I r ⟨p,ys,rfl,.inl (fD hq),q⟩
 | false=>exact lY pins s σ H _ us Q I r ⟨p,ys,rfl,.inr (eK hq),q⟩
noncomputable def cD9:List V->Hp->VK->Prop:=fun xs H Q=>∃ p b ys,xs=[.ref p]/\fP H p=some (b,ys)/\if b=true then ∀ l,H l=none->Q (.ref l) (upd H l (.tup ys))else Q (.ref p) H
theorem kM:iT X (.type "tuple") cD9:=by
 intro pins s σ H xs us Q I r h
 obtain⟨p,b,ys,rfl,hq,q⟩:=h
 cases b with
 | true=>exact kI pins s σ H _ us Q I r ⟨p,ys,rfl,.inl ⟨fD hq,by simpa using q⟩⟩
 | false=>exact kI pins s σ H _ us Q I r ⟨p,ys,rfl,.inr ⟨eK hq,by simpa using q⟩⟩
noncomputable def bP2:R2:=fun x y H Q=>match x,y with
 | .int i,.int j=>cA5 i j/\Q (.int (i*j)) H
 | .str z,.int i=>z.length<=1000/\0<=i/\i<=1000/\∀ y:Str,y.length<=z.length*i.toNat->y=PySem.Txt.mul z i->Q (.str y) H
 | _,_=>False
theorem bP3(z:Str)(i:Int)(h0:0<=i):(PySem.Txt.mul z i).length<=z.length*i.toNat:=by
 unfold PySem.Txt.mul
 by_cases h1:i < 1
 ·rw[if_pos h1];exact Nat.zero_le _
 ·rw[if_neg h1]
  by_cases h2:(i==1||z.length==0)=true
  ·rw[if_pos h2]
   have:1<=i.toNat:=by omega
   calc z.length=z.length*1:=by rw[Nat.mul_one]
    _<=z.length*i.toNat:=Nat.mul_le_mul_left _ this
  ·rw[if_neg h2]
   have key:∀ (k:Nat) (acc:Array Nat),((List.replicate k z.cps).foldl (· ++ ·) acc).size=acc.size+k*z.cps.size:=by
    intro k
    induction k with
    | zero=>intro acc;simp
    | succ k ih=>
      intro acc
      rw[List.replicate_succ,List.foldl_cons,ih,Array.size_append,Nat.succ_mul]
      omega
   show((List.replicate i.toNat z.cps).foldl (· ++ ·) #[]).size<=_
   rw[key]
   show 0+_<=_
   rw[Nat.zero_add,Nat.mul_comm]
   exact Nat.le_refl _
theorem cE0:OpR X (binaryOp .Mult) bP2:=by
 intro pins s σ H x y v u Q I rx ry h
 unfold bP2 at h
 split at h
 ·exact cA7 pins s σ H _ _ v u Q I rx ry ⟨_,_,rfl,rfl,h.1,h.2⟩
 ·rename_i z i
  obtain⟨h1,h2,h3,q⟩:=h
  obtain⟨t,rfl⟩:=rx
  obtain⟨t',rfl⟩:=ry
  have hle:z.length*i.toNat<=1000*1000:=Nat.mul_le_mul h1 (by omega)
  refine SB.mul ⟨?_,fun ha hb=>?_,fun ha hb=>?_⟩ fun t' k=>⟨.str _,H,I.tok k,⟨t',rfl⟩,q _ (bP3 z i h2) rfl⟩
  ·rw[decide_eq_false (by omega),decide_eq_false (by omega)];rfl
  ·have h4:(1000:Int)<=(2 ^ 63-1) / i:=by
    rw[Int.le_ediv_iff_mul_le (by omega)]
    omega
   omega
  ·unfold PySem.Builtin.Str.tooLong
   exact decide_eq_false (by rw[sizeLine_eq];omega)
 ·exact h.elim
end
section
variable{H:Hp}{Q:VK}{i j:Int}{p:Addr}{b:Bool}{xs:List V}
theorem tyL{K:PySem.W.Frag}(h:H p=some (.lst xs)):tyV K "list" (.ref p) H:=.inl ⟨rfl,_,SqL.of h⟩
end
end L2
namespace L2
theorem pK{α:Type}:∀ (l:List α) (i:Nat) (h:i < l.length),(l[i]::l.eraseIdx i).Perm l
 | [],i,h=>absurd h (Nat.not_lt_zero _)
 | x::r,0,_=>by simpa using List.Perm.refl _
 | x::r,i+1,h=>by
   have ih:=pK r i (by simpa using h)
   simp only[List.getElem_cons_succ,List.eraseIdx_cons_succ]
   exact(List.Perm.swap x _ _).trans (ih.cons x)
open PySem
theorem qS(x:Str):x.length=x.cps.toList.length:=by simp[Str.length]
open PySem.Spec PyProof.Rows
inductive Dt where
 | non | int (i:Int) | str (x:Str) | tup (l:List Dt)
noncomputable instance:DecidableEq Dt:=fun _ _=>Classical.propDecidable _
mutual
inductive Rep(H:Hp):Dt->V->Prop
 | non:Rep H .non .non
 | int (i:Int):Rep H (.int i) (.int i)
 | str (x:Str):Rep H (.str x) (.str x)
 | tup {l:List Dt} {p:Addr} {xs:List V}:H p=some (.tup xs)->Reps H l xs->Rep H (.tup l) (.ref p)
inductive Reps(H:Hp):List Dt->List V->Prop
 | nil:Reps H [] []
 | cons {d:Dt} {r:List Dt} {x:V} {xs:List V}:Rep H d x->Reps H r xs->Reps H (d::r) (x::xs)
end
mutual
theorem Rep.inj{H:Hp}:∀ {d e:Dt} {x:V},Rep H d x->Rep H e x->d=e
 | _,_,_,.non,h=>by cases h;rfl
 | _,_,_,.int i,h=>by cases h;rfl
 | _,_,_,.str x,h=>by cases h;rfl
 | _,_,_,.tup h r,h'=>by
   cases h' with
   | tup h2 r2=>
     rw[h]at h2
     cases h2
     rw[Reps.inj r r2]
theorem Reps.inj{H:Hp}:∀ {l m:List Dt} {xs:List V},Reps H l xs->Reps H m xs->l=m
 | _,_,_,.nil,h=>by cases h;rfl
 | _,_,_,.cons a r,h=>by
   cases h with
   | cons a2 r2=>rw[Rep.inj a a2,Reps.inj r r2]
end
theorem Reps.length{H:Hp}:∀ {l:List Dt} {xs:List V},Reps H l xs->l.length=xs.length
 | _,_,.nil=>rfl
 | _,_,.cons _ r=>by simp[Reps.length r]
theorem Reps.get{H:Hp}:∀ {l:List Dt} {xs:List V} {i:Nat} {d:Dt},Reps H l xs->l[i]? = some d->∃ x,xs[i]? = some x/\Rep H d x
 | _,_,_,_,.nil,h=>by simp at h
 | _,_,0,_,.cons a r,h=>by simp at h;subst h;exact⟨_,rfl,a⟩
 | _,_,i+1,_,.cons a r,h=>by
   obtain⟨x,e,q⟩:=Reps.get (i:=i) r (by simpa using h)
   exact⟨x,by simpa using e,q⟩
mutual
def Dt.dep:Dt->Nat
 | .tup l=>Dt.deps l+1
 | _=>0
def Dt.deps:List Dt->Nat
 | []=>0
 | d::r=>max d.dep (Dt.deps r)
end
theorem qT:∀ {l:List Dt} {i:Nat} {d:Dt},l[i]? = some d->d.dep<=Dt.deps l
 | [],_,_,h=>by simp at h
 | e::r,0,d,h=>by
   simp at h;subst h
   unfold Dt.deps
   exact Nat.le_max_left _ _
 | e::r,i+1,d,h=>by
   have:=qT (l:=r) (i:=i) (d:=d) (by simpa using h)
   unfold Dt.deps
   exact Nat.le_trans this (Nat.le_max_right _ _)
theorem iF(l m:List Dt):((List.range (min l.length m.length)).all (fun j=>decide (l[j]? = m[j]?))&&l.length==m.length)=decide (l=m):=by
 rw[Bool.eq_iff_iff,Bool.and_eq_true,List.all_eq_true,decide_eq_true_eq,beq_iff_eq]
 constructor
 ·rintro⟨h1,h2⟩
  apply List.ext_getElem?
  intro j
  by_cases hj:j < l.length
  ·have:=h1 j (List.mem_range.mpr (by omega))
   exact of_decide_eq_true this
  ·rw[List.getElem?_eq_none_iff.mpr (by omega),List.getElem?_eq_none_iff.mpr (by omega)]
 ·rintro rfl
  exact⟨fun j _=>decide_eq_true rfl,rfl⟩
section
variable{X:Cx}{pins:List (Addr×Obj)}{σ:St}{H:Hp}{s:Shared}
theorem bC6(I:Inv X pins σ H s):∀ (n:Nat) {A:Around} {d1 d2:Dt} {x y:V} {u v:Value},A.units+n < cLine->d1.dep<=n->Rep H d1 x->Rep H d2 y->eR x u->eR y v->SeqAt.EqAt A s u v (decide (d1=d2)):=by
 intro n
 induction n with
 | zero=>
   intro A d1 d2 x y u v hu hd r1 r2 ru rv
   have hu':A.units < cLine:=by omega
   cases r1 with
   | non=>
     cases ru
     cases r2 with
     | non=>cases rv;rw[decide_eq_true rfl];exact SeqAt.EqAt.same _
     | int i=>obtain⟨t,rfl⟩:=rv;rw[decide_eq_false (fun z=>nomatch z)];exact SeqAt.EqAt.none_int _ _
     | str i=>obtain⟨t,rfl⟩:=rv;rw[decide_eq_false (fun z=>nomatch z)];exact SeqAt.EqAt.none_str _ _
     | tup h r=>
       cases rv;rw[decide_eq_false (fun z=>nomatch z)]
       obtain⟨its,_,ht,_⟩:=I.tuple (SqT.of h)
       exact SeqAt.EqAt.none_tuple ht hu'
   | int i=>
     obtain⟨t,rfl⟩:=ru
     cases r2 with
     | non=>cases rv;rw[decide_eq_false (fun z=>nomatch z)];exact SeqAt.EqAt.int_none _ _
     | int j=>
       obtain⟨t',rfl⟩:=rv
       have e:decide (Dt.int i=Dt.int j)=(i==j):=by
        rw[Bool.eq_iff_iff,decide_eq_true_eq,beq_iff_eq]
        exact⟨fun z=>by cases z;rfl,fun z=>by rw[z]⟩
       rw[e];exact SeqAt.EqAt.int_int _ _ _ _
     | str j=>obtain⟨t',rfl⟩:=rv;rw[decide_eq_false (fun z=>nomatch z)];exact SeqAt.EqAt.int_str _ _ _ _
     | tup h r=>
       cases rv;rw[decide_eq_false (fun z=>nomatch z)]
       obtain⟨its,_,ht,_⟩:=I.tuple (SqT.of h)
       exact SeqAt.EqAt.int_tuple _ _ ht hu'
   | str i=>
     obtain⟨t,rfl⟩:=ru
     cases r2 with
     | non=>cases rv;rw[decide_eq_false (fun z=>nomatch z)];exact SeqAt.EqAt.str_none _ _
     | int j=>obtain⟨t',rfl⟩:=rv;rw[decide_eq_false (fun z=>nomatch z)];exact SeqAt.EqAt.str_int _ _ _ _
     | str j=>
       obtain⟨t',rfl⟩:=rv
       have e:decide (Dt.str i=Dt.str j)=(i==j):=by
        rw[Bool.eq_iff_iff,decide_eq_true_eq,beq_iff_eq]
        exact⟨fun z=>by cases z;rfl,fun z=>by rw[z]⟩
       rw[e];exact SeqAt.EqAt.str_str _ _ _ _
     | tup h r=>
       cases rv;rw[decide_eq_false (fun z=>nomatch z)]
       obtain⟨its,_,ht,_⟩:=I.tuple (SqT.of h)
       exact SeqAt.EqAt.str_tuple _ _ ht hu'
   | tup h r=>unfold Dt.dep at hd;omega
 | succ n ih=>
   intro A d1 d2 x y u v hu hd r1 r2 ru rv
   have hu':A.units < cLine:=by omega
   cases r1 with
   | non=>exact ih (by omega) (Nat.zero_le _) .non r2 ru rv
   | int i=>exact ih (by omega) (Nat.zero_le _) (.int i) r2 ru rv
   | str i=>exact ih (by omega) (Nat.zero_le _) (.str i) r2 ru rv
   | @tup l p xs h r=>
     cases ru
     obtain⟨its,vr,ht,_⟩:=I.tuple (SqT.of h)
     cases r2 with
     | non=>cases rv;rw[decide_eq_false (fun z=>nomatch z)];exact SeqAt.EqAt.tuple_none ht hu'
     | int j=>obtain⟨t',rfl⟩:=rv;rw[decide_eq_false (fun z=>nomatch z)];exact SeqAt.EqAt.tuple_int _ _ ht hu'
     | str j=>obtain⟨t',rfl⟩:=rv;rw[decide_eq_false (fun z=>nomatch z)];exact SeqAt.EqAt.tuple_str _ _ ht hu'
     | @tup m q ys h2 r2=>
       cases rv
       obtain⟨its2,vr2,ht2,_⟩:=I.tuple (SqT.of h2)
       by_cases hpq:p=q
       ·subst hpq
        rw[h]at h2;cases h2
        rw[Reps.inj r r2,decide_eq_true rfl]
        exact SeqAt.EqAt.same _
       ·have hdl:Dt.deps l<=n:=by unfold Dt.dep at hd;omega
        have e1:its.length=l.length:=by rw[← vr.length,r.length]
        have e2:its2.length=m.length:=by rw[← vr2.length,r2.length]
        have key:=SeqAt.RcAt.tuples (A:=A) (e:=fun j=>decide (l[j]? = m[j]?)) ht ht2 hu' fun j h1 h2'=>by
         have hj1:j < its.length:=by simpa using h1
         have hj2:j < its2.length:=by simpa using h2'
         have hl:l[j]? = some l[j]:=List.getElem?_eq_getElem (by omega)
         have hm:m[j]? = some m[j]:=List.getElem?_eq_getElem (by omega)
         obtain⟨x',ex,rx⟩:=r.get hl
         obtain⟨y',ey,ry⟩:=r2.get hm
         obtain⟨u',eu,ru'⟩:=vr.get ex
         obtain⟨v',ev,rv'⟩:=vr2.get ey
         have:=ih (A:=A.in1) (by show A.units+1+n < cLine;omega) (Nat.le_trans (qT hl) hdl) rx ry ru' rv'
         have g1:its.toArray[j]=u':=by
          rw[List.getElem?_eq_getElem hj1]at eu
          simpa using eu
         have g2:its2.toArray[j]=v':=by
          rw[List.getElem?_eq_getElem hj2]at ev
          simpa using ev
         rw[g1,g2]
         have e3:decide (l[j]? = m[j]?)=decide (l[j]=m[j]):=by rw[hl,hm];simp
         rw[e3]
         exact this
        have e4:((List.range (min its.toArray.size its2.toArray.size)).all (fun j=>decide (l[j]? = m[j]?))&&its.toArray.size==its2.toArray.size)=decide (Dt.tup l=Dt.tup m):=by
         rw[List.size_toArray,List.size_toArray,e1,e2,iF]
         rw[Bool.eq_iff_iff,decide_eq_true_eq,decide_eq_true_eq]
         exact⟨fun z=>by rw[z],fun z=>by cases z;rfl⟩
        rw[e4]at key
        exact SeqAt.EqAt.of_refs hpq key
end
section
variable{X:Cx}{pins:List (Addr×Obj)}{σ:St}{H:Hp}{s:Shared}
theorem kN(I:Inv X pins σ H s){A:Around}{l m:List Dt}{xs ys:List V}{its its2:List Value}(hu:A.units+64 < cLine)(hd:Dt.deps l<=60)(r1:Reps H l xs)(r2:Reps H m ys)(v1:cO xs its)(v2:cO ys its2) :
  ∀ j (h1:j < its.toArray.size) (h2:j < its2.toArray.size),SeqAt.EqAt A.in1 s its.toArray[j] its2.toArray[j] (decide (l[j]? = m[j]?)):=by
 intro j h1 h2
 have e1:its.length=l.length:=by rw[← v1.length,r1.length]
 have e2:its2.length=m.length:=by rw[← v2.length,r2.length]
 have hj1:j < its.length:=by simpa using h1
 have hj2:j < its2.length:=by simpa using h2
 have hl:l[j]? = some l[j]:=List.getElem?_eq_getElem (by omega)
 have hm:m[j]? = some m[j]:=List.getElem?_eq_getElem (by omega)
 obtain⟨x',ex,rx⟩:=r1.get hl
 obtain⟨y',ey,ry⟩:=r2.get hm
 obtain⟨u',eu,ru'⟩:=v1.get ex
 obtain⟨v',ev,rv'⟩:=v2.get ey
 have key:=bC6 I 60 (A:=A.in1) (by show A.units+1+60 < cLine;omega) (Nat.le_trans (qT hl) hd) rx ry ru' rv'
 have g1:its.toArray[j]=u':=by
  rw[List.getElem?_eq_getElem hj1]at eu
  simpa using eu
 have g2:its2.toArray[j]=v':=by
  rw[List.getElem?_eq_getElem hj2]at ev
  simpa using ev
 rw[g1,g2]
 have e3:decide (l[j]? = m[j]?)=decide (l[j]=m[j]):=by rw[hl,hm];simp
 rw[e3]
 exact key
noncomputable def bX0(neg:Bool):R2:=fun x y H Q=>match x,y with
 | .ref p,.ref q=>∃ b xs ys l m,fP H p=some (b,xs)/\fP H q=some (b,ys)/\Reps H l xs/\Reps H m ys/\Dt.deps l<=60/\Q (.bl (if neg then !decide (l=m)else decide (l=m))) H
 | _,_=>bM9 x y=true/\Q (.bl (if neg then !decide (x=y)else decide (x=y))) H
theorem xZ{l m:List Dt}(h:l.length=m.length):(List.range l.length).all (fun j=>decide (l[j]? = m[j]?))=decide (l=m):=by
 have:=iF l m
 rw[h,Nat.min_self]at this
 rw[h,← this]
 simp
theorem yA(hu:X.A.units+64 < cLine):OpR X (compareOp .Eq) (bX0 false):=by
 intro pins s σ H x y v u Q I rx ry h
 unfold bX0 at h
 split at h
 ·rename_i p q
  obtain⟨b,xs,ys,l,m,hp,hq,r1,r2,hd,q⟩:=h
  cases rx
  cases ry
  have q':Q (.bl (decide (l=m))) H:=by simpa using q
  cases b with
  | true=>
    obtain⟨its,v1,p1,_⟩:=I.list (fD hp)
    obtain⟨its2,v2,p2,_⟩:=I.list (fD hq)
    have e1:its.length=l.length:=by rw[← v1.length,r1.length]
    have e2:its2.length=m.length:=by rw[← v2.length,r2.length]
    by_cases hs:l.length=m.length
    ·refine SeqAt.eq_listAt p1.isList p2.isList (by simp only[List.size_toArray];omega) (by omega) (kN I hu hd r1 r2 v1 v2) (bM I q' ?_)
     rw[List.size_toArray,e1,xZ hs]
    ·refine SeqAt.eq_list_lengthsAt p1.isList p2.isList (by simp only[List.size_toArray,bne_iff_ne];omega) (by omega) (bM I q' ?_)
     exact decide_eq_false fun z=>hs (by rw[z])
  | false=>
    obtain⟨its,v1,p1,_⟩:=I.tuple (eK hp)
    obtain⟨its2,v2,p2,_⟩:=I.tuple (eK hq)
    have e1:its.length=l.length:=by rw[← v1.length,r1.length]
    have e2:its2.length=m.length:=by rw[← v2.length,r2.length]
    refine SeqAt.eq_tupleAt p1 p2 (by omega) (kN I hu hd r1 r2 v1 v2) (bM I q' ?_)
    rw[List.size_toArray,List.size_toArray,e1,e2,iF]
 ·exact cN6 pins s σ H _ _ v u Q I rx ry ⟨h.1,by simpa using h.2⟩
theorem cE1(hu:X.A.units+64 < cLine):OpR X (compareOp .NotEq) (bX0 true):=by
 intro pins s σ H x y v u Q I rx ry h
 unfold bX0 at h
 split at h
 ·rename_i p q
  obtain⟨b,xs,ys,l,m,hp,hq,r1,r2,hd,q⟩:=h
  cases rx
  cases ry
  have q':Q (.bl (!decide (l=m))) H:=by simpa using q
  cases b with
  | true=>
    obtain⟨its,v1,p1,_⟩:=I.list (fD hp)
    obtain⟨its2,v2,p2,_⟩:=I.list (fD hq)
    have e1:its.length=l.length:=by rw[← v1.length,r1.length]
    have e2:its2.length=m.length:=by rw[← v2.length,r2.length]
    by_cases hs:l.length=m.length
    ·refine SeqAt.RcNeAt.lists p1.isList p2.isList (by simp only[List.size_toArray];omega) (by omega) (kN I hu hd r1 r2 v1 v2) _ _ _ _ (bM I q' ?_)
     rw[List.size_toArray,e1,xZ hs]
    ·refine SeqAt.RcNeAt.lists_lengths p1.isList p2.isList (by simp only[List.size_toArray,bne_iff_ne];omega) (by omega) _ _ _ _ (bM I q' ?_)
     rw[decide_eq_false fun z=>hs (by rw[z])];rfl
  | false=>
    obtain⟨its,v1,p1,_⟩:=I.tuple (eK hp)
    obtain⟨its2,v2,p2,_⟩:=I.tuple (eK hq)
    have e1:its.length=l.length:=by rw[← v1.length,r1.length]
    have e2:its2.length=m.length:=by rw[← v2.length,r2.length]
    refine SeqAt.RcNeAt.tuples p1 p2 (by omega) (kN I hu hd r1 r2 v1 v2) _ _ _ _ (bM I q' ?_)
    rw[List.size_toArray,List.size_toArray,e1,e2,iF]
 ·exact cN7 pins s σ H _ _ v u Q I rx ry ⟨h.1,by simpa using h.2⟩
theorem aH8{i j:Int}{Q:VK}:bX0 false (.int i) (.int j) H Q=Q (.bl (decide (i=j))) H:=by
 show(bM9 _ _=true/\_)=_;rw[show bM9 (.int i) (.int j)=true from rfl,← xY];simp
theorem aH9{i j:Int}{Q:VK}:bX0 true (.int i) (.int j) H Q=Q (.bl (!decide (i=j))) H:=by
 show(bM9 _ _=true/\_)=_;rw[show bM9 (.int i) (.int j)=true from rfl,← xY];simp
end
section
variable{X:Cx}
theorem bP4{prog:Program}{w:World}{A:Around}{E:Value->Shared->Prop}{s:Shared}{t b:Addr}{ws:List Value}{Q:Value->Shared->Prop}(ht:IsTup s.heap t ([]:List Value).toArray)(hb:IsTup s.heap b ws.toArray)
  (h1:Q (.ref b) s):wpAny (model prog w) A (binaryOp .Add (.ref t) (.ref b)) Q E s:=by
 obtain⟨⟨cls,dd,data,sl⟩,ho,hc,n,hd⟩:=id ht
 obtain⟨⟨cls2,dd2,data2,sl2⟩,ho2,hc2,n2,hd2⟩:=id hb
 simp only at hc hd hc2 hd2
 subst hc hd hc2 hd2
 exact concat_meets ⟨_,ho,rfl⟩ ⟨_,ho2,rfl⟩ noFill_tuple_add seq_tuple_add PySem.F.slot_tuple_add PySem.F.entry_tuple_add (PySem.F.args_tuple_add_2 _ _)
   (tuple_addW0 t b ([]:List Value).toArray ws.toArray n n2 dd dd2 sl sl2 (by simp)) ⟨ho,ho2,h1⟩
noncomputable def bC7:R2:=fun x y H Q=>match x,y with
 | .int i,.int j=>Q (.int (i+j)) H
 | .str a,.str b=>a.length+b.length<=sizeLine/\Q (.str (a++b)) H
 | .ref p,.ref q=>(∃ xs ys,H p=some (.lst xs)/\H q=some (.lst ys)/\xs.length+ys.length<=sizeLine/\∀ r,H r=none->Q (.ref r) (upd H r (.lst (xs++ys)))) \/
   ∃ xs ys,fP H p=some (false,xs)/\fP H q=some (false,ys)/\xs.length+ys.length<=sizeLine/\(xs=[]->Q (.ref q) H)/\(xs≠[]->ys=[]->Q (.ref p) H)/\(xs≠[]->ys≠[]->∀ r,H r=none->Q (.ref r) (upd H r (.tup (xs++ys))))
 | _,_=>False
theorem yB:OpR X (binaryOp .Add) bC7:=by
 intro pins s σ H x y v u Q I rx ry h
 unfold bC7 at h
 split at h
 ·exact cA6 pins s σ H _ _ v u Q I rx ry ⟨_,_,rfl,rfl,h⟩
 ·exact zQ pins s σ H _ _ v u Q I rx ry ⟨_,_,rfl,rfl,h.1,h.2⟩
 ·rename_i p q
  rcases h with⟨xs,ys,h1,h2,h3,q⟩ | ⟨xs,ys,h1,h2,h3,q1,q2,q3⟩
  ·exact cC2 pins s σ H _ _ v u Q I rx ry ⟨_,_,xs,ys,rfl,rfl,h1,h2,h3,q⟩
  ·by_cases hx:xs=[]
   ·cases rx
    cases ry
    obtain⟨its,r1,p1,_⟩:=I.tuple (eK h1)
    obtain⟨its2,r2,p2,_⟩:=I.tuple (eK h2)
    have e:its=[]:=r1.nil_iff.mpr hx
    subst e
    exact bP4 p1 p2 ⟨.ref q,H,I,rfl,q1 hx⟩
   ·exact bN6 pins s σ H _ _ v u Q I rx ry ⟨p,q,xs,ys,rfl,rfl,eK h1,eK h2,hx,h3,q2 hx,q3 hx⟩
 ·exact h.elim
theorem yC{i j:Int}{H:Hp}{Q:VK}:bC7 (.int i) (.int j) H Q=Q (.int (i+j)) H:=rfl
noncomputable def bP5(neg:Bool):R2:=fun x y H Q=>match y with
 | .non=>Q (.bl (if neg then !decide (x=.non)else decide (x=.non))) H
 | .bl b=>(match x with | .bl a=>Q (.bl (if neg then !decide (a=b)else decide (a=b))) H | _=>False)
 | _=>False
end
section
variable{X:Cx}
theorem bP6:OpR X (compareOp .IsNot) (bP5 true):=by
 intro pins s σ H x y v u Q I rx ry h
 unfold bP5 at h
 split at h
 ·exact bN0 pins s σ H _ _ v u Q I rx ry ⟨rfl,by simpa using h⟩
 ·split at h
  ·rename_i b a
   cases rx
   cases ry
   exact isnot_bool (bM I h (by cases a<;>cases b<;>rfl))
  ·exact h.elim
 ·exact h.elim
theorem aI0{a b:Bool}{H:Hp}{Q:VK}:bP5 false (.bl a) (.bl b) H Q=Q (.bl (decide (a=b))) H:=rfl
theorem yD{a b:Bool}{H:Hp}{Q:VK}:bP5 true (.bl a) (.bl b) H Q=Q (.bl (!decide (a=b))) H:=rfl
theorem aI1{x:V}{H:Hp}{Q:VK}:bP5 false x .non H Q=Q (.bl (decide (x=.non))) H:=rfl
theorem yE{x:V}{H:Hp}{Q:VK}:bP5 true x .non H Q=Q (.bl (!decide (x=.non))) H:=rfl
end
section
variable{prog:Program}{w:World}{A:Around}{E:Value->Shared->Prop}{s:Shared}
end
noncomputable abbrev cU5(acc:Array Value)(c:Nat):Obj:={cls:=.type "list",dict:=none,data:=.seq acc c,slots:=#[]}
section
variable{prog:Program}{w:World}{A:Around}{E:Value->Shared->Prop}{I S:Addr}{n:Nat}{J:Nat->Array Value->Heap->Prop}{K:Array Value->Heap->Prop}{R:Result->Shared->Prop}
end
section
variable{prog:Program}{w:World}{A:Around}{E:Value->Shared->Prop}{s:Shared}{I:Addr}{Q:Bool->Shared->Prop}
end
theorem uT{X:Cx}{T U:String}{x y:Str}{p p' pos pos':Pos}{e:Expr}{es:List Expr}{t:TA}{r:List V->Hp->VK->Prop}
  (hc:∀ pins s σ H vs us Q,Inv X pins σ H s->cO vs us->r vs H Q->wpAny (model X.prog X.w) X.A (call (.type U) us) (fun u s1=>wpAny (model X.prog X.w) X.A (call (.type T) [u]) (EP X pins σ Q) X.xe s1) X.xe s)
  (hg:Gl X x) (hm:X.mg x=none) (hv:bootBuiltins x=some (.type T)) (hg':Gl X y) (hm':X.mg y=none) (hv':bootBuiltins y=some (.type U)) (ha:PA X (e::es) t)
  (hn:x≠"__name__":=by decide) (hdb:(x==("__debug__":Str))=false:=by decide) (hn':y≠"__name__":=by decide) (hdb':(y==("__debug__":Str))=false:=by decide)
  (he:starEach (e::es) X.env=(false,eval e X.env)::starEach es X.env:=by rfl) (hpl:(backTo pos' (starEach es X.env)).any (·.1)=false:=by rfl)
  (hs:starEach [.Call (.Name y p') (e::es) [] pos'] X.env=(false,eval (.Call (.Name y p') (e::es) [] pos') X.env)::starEach [] X.env:=by rfl) :
  PE X (.Call (.Name x p) [.Call (.Name y p') (e::es) [] pos'] [] pos) (tCB r t):=by
 intro pins s σ H Q I h
 refine wpAny_Call_Name_kw (lW I hg hm hv ?_ hn hdb)
 refine PyProof.Rows.callWith_type1 ?_ hs (by rfl)
 rw[hs]
 (show wpAny _ _ (spliced ((false,eval (.Call (.Name y p') (e::es) [] pos') X.env)::backTo pos (starEach [] X.env))) _ _ s;refine Calls.spliced_cons ?_)
 refine wpAny_Call_Name_kw (lW I hg' hm' hv' ?_ hn' hdb')
 refine PyProof.Rows.callWith_type1 ?_ he hpl
 exact thn (ha pos' pins s σ H _ I h) fun us s1 ⟨vs,H1,I1,r1,q1⟩=>thn (hc pins s1 σ H1 vs us Q I1 r1 q1) fun u s2 h2=>Calls.spliced_nil h2
section
variable{prog:Program}{w:World}{A:Around}{E:Value->Shared->Prop}{s:Shared}
end
section
variable{X:Cx}
end
structure ZK(h0:Heap)(xs ys:Array Value)(acc:Array Value)(h:Heap):Prop where
 keep:∀ b o,h0.get? b=some o->h.get? b=some o
 got:∀ j,j < min xs.size ys.size->∃ T x y,acc[j]? = some (.ref T)/\xs[j]? = some x/\ys[j]? = some y/\IsPair h T x y/\h0.objs.size+6<=T
 nd:acc.toList.Nodup
section
variable{prog:Program}{w:World}{A:Around}{E:Value->Shared->Prop}{s:Shared}
end
section
variable{prog:Program}{w:World}{A:Around}{E:Value->Shared->Prop}{s:Shared}
end
section
variable{X:Cx}
end
theorem fZ{own:List Nat}{K:PySem.W.Frag}{n:Nat}{t:TGs}(ht:bB6 own t):bO3 own (uR K n t):=fun x σ H Q q=>by
 unfold uR at q ⊢
 split at q
 ·exact⟨q.1,ht _ _ _ _ q.2⟩
 ·obtain⟨xs,h1,h2,h3⟩:=q
  exact⟨xs,h1,h2,ht _ _ _ _ h3⟩
 ·exact q.elim
noncomputable def nJ(t c:String):Bool:=t==c||(t=="bool"&&c=="int")
theorem bC8{K:PySem.W.Frag}{t c:String}(ht:t="NoneType"\/t="int"\/t="bool"\/t="str"\/t="list"\/t="tuple")(hc:c="int"\/c="bool"\/c="str"\/c="list"\/c="tuple"):PySem.W.kitOne K (.type t) (.type c)=some (nJ t c):=by
 rcases ht with rfl | rfl | rfl | rfl | rfl | rfl<;>rcases hc with rfl | rfl | rfl | rfl | rfl<;>first | exact bC5 | rfl | (unfold PySem.W.kitOne;decide +kernel) | (unfold PySem.W.kitOne;rfl)
end L2
namespace Mr
open PySem L2 PyProof.Rows
noncomputable abbrev Sps:=PySem.W.Frag->Sp
noncomputable def fF(H:Hp)(p:Addr):Prop:=∃ i j:Int,H p=some (.lst [.int i,.int j])
noncomputable def SameBut(p:Addr)(H H':Hp):Prop:=∀ b o,b≠p->H b=some o->H' b=some o
theorem fF.upd{H:Hp}{p q:Addr}{o:HO}(h:fF H p)(hq:H q=none):fF (L2.upd H q o) p:=by
 obtain⟨i,j,e⟩:=h
 exact⟨i,j,by rw[aK (bL e hq)];exact e⟩
theorem fF.put{H:Hp}{p q:Addr}{o:HO}(h:fF H p)(hq:q≠p):fF (L2.upd H q o) p:=by
 obtain⟨i,j,e⟩:=h
 exact⟨i,j,by rw[aK hq.symm];exact e⟩
theorem SameBut.upd{H H2:Hp}{p q:Addr}{o:HO}(h:SameBut p H H2)(hq:H2 q=none):SameBut p H (L2.upd H2 q o):=fun b u hb e=>by
 have:=h b u hb e
 rw[aK (bL this hq)];exact this
theorem SameBut.put{H H2:Hp}{p q:Addr}{o:HO}(h:SameBut p H H2)(hq:H q=none):SameBut p H (L2.upd H2 q o):=fun b u hb e=>by
 rw[aK (bL e hq)];exact h b u hb e
theorem SameBut.trans{p:Addr}{H H1 H2:Hp}(h:SameBut p H H1)(h':SameBut p H1 H2):SameBut p H H2:=fun b u hb e=>h' b u hb (h b u hb e)
theorem SameBut.refl{p:Addr}{H:Hp}:SameBut p H H:=fun _ _ _ e=>e
theorem SameBut.none{p q:Addr}{H H':Hp}(h:SameBut p H H')(hb:fF H' p)(hq:H' q=Option.none):H q=Option.none:=by
 cases e:H q with
 | none=>rfl
 | some o=>
   by_cases z:q=p
   ·subst z
    obtain⟨i,j,e'⟩:=hb
    rw[e']at hq;cases hq
   ·rw[h q o z e]at hq;cases hq
noncomputable def nK:Sps:=fun _ vs H Q _=>∃ (p:Addr) (m:Int),vs=[.ref p,.int m]/\fF H p/\0 < m/\m < 1073741824 /\
 ∀ (d:Int) H',0<=d->d < m->fF H' p->SameBut p H H'->Q (.int d) H'
inductive Tr where
 | leaf (z:Str) | node (l r:Tr)
end Mr
namespace L2
open PySem PyProof.Rows
theorem cS1{i j:Int}:(if j < i then j else i)=min i j:=by
 by_cases h:j < i
 ·rw[if_pos h];omega
 ·rw[if_neg h];omega
theorem cE2{i j:Int}{R:Int->Int->Prop}:(∃ a b,[V.int i,V.int j]=[V.int a,V.int b]/\R a b)=R i j:=
 propext ⟨fun⟨a,b,e,q⟩=>by cases e;exact q,fun q=>⟨i,j,rfl,q⟩⟩
end L2
namespace L2
open PySem
theorem sO{t u:TS}{D:Ends}{σ:St}{H:Hp}(M:St->Hp->Prop)(h2:∀ σ' H',M σ' H'->u D σ' H')(h1:∀ C:St->Hp->Prop,(∀ σ' H',M σ' H'->C σ' H')->t {D with nx:=C} σ H):cL2 t u D σ H:=h1 (u D) h2
end L2
namespace L2
theorem cU6{α:Type}{x:α}{r:List α}:atI (x::r) 0=some x:=aF2 (j:=0) (by simp)
theorem bK0{K:PySem.W.Frag}{T:String}{r:V->List V->Hp->VK->Prop}{to:TE}{σ:St}{H:Hp}{Q:VK}:cO3 K T r to σ H Q=to σ H fun x H1=>tyV K T x H1/\r x [] H1 Q:=rfl
end L2
namespace Mr
open PySem L2
end Mr
namespace L2
open PySem
theorem aI2{X:Cx}(K:PySem.W.Frag)(hK:X.K=K){tg l:Expr}{tl:TE}(hl:PE X l tl):PI X tg l (cO8 K tl):=by rw[← hK];exact cD4 hl
theorem cZ{X:Cx}{pos:Pos}(K:PySem.W.Frag)(hK:X.K=K){es:List Expr}{k:Nat}{t:TGs}{n:Nat}(hc:X.calm=true)(h:PGs X es t)
  (hn:(assignEach es X.env).length=n:=by rfl) (hst:(assignEach es X.env).findIdx? (·.1)=none:=by rfl):PG X (.Tuple es k pos) (uR K n t):=by rw[← hK];exact bP1 hc h hn hst
section
variable{X:Cx}{o e:Expr}{es:List Expr}{to:TE}{t:TA}{name:Str}{apos cpos:Pos}{T id:String}{r:V->List V->Hp->VK->Prop}
theorem bP7(K:PySem.W.Frag)(hK:X.K=K)(pa:PlainAttrs T)(slot:Slot T name id)(hty:typeOf (.builtin id)=pure (.type "method_descriptor"))(hm:MtR X id r)(ho:PE X o to)
  (hbase:attributeBase o name X.env (eval o X.env)=eval o X.env:=by rfl) (hline:(apos.endLine==cpos.line)=true:=by rfl):PE X (.Call (.Attribute o name apos) [] [] cpos) (cO3 K T r to):=by rw[← hK];exact cB9 pa slot hty hm ho hbase hline
theorem gW(K:PySem.W.Frag)(hK:X.K=K)(pa:PlainAttrs T)(slot:Slot T name id)(hty:typeOf (.builtin id)=pure (.type "method_descriptor"))(hm:MtR X id r)(ho:PE X o to)(ha:PA X (e::es) t)
  (hbase:attributeBase o name X.env (eval o X.env)=eval o X.env:=by rfl)
  (hfew:((backTo cpos (starEach (e::es) X.env)).all (fun x=>!x.1)&&(backToKw cpos (keywordEach [] X.env)).all (fun x=>x.1.isSome)&&decide ((e::es).length+([]:List Keyword).length+(if([]:List Keyword).isEmpty then 0 else 1) < 30))=true:=by rfl)
  (hline:(apos.endLine==cpos.line)=true:=by rfl) (hs:starEach (e::es) X.env=(false,eval e X.env)::starEach es X.env:=by rfl) (hplain:(backTo cpos (starEach es X.env)).any (·.1)=false:=by rfl) :
  PE X (.Call (.Attribute o name apos) (e::es) [] cpos) (tBM K T r to t):=by rw[← hK];exact cO4 pa slot hty hm ho ha hbase hfew hline hs hplain
end
theorem bK1{i j:Nat}{ta:TA}{D:Ends}{σ:St}{H:Hp}:cN2 i j ta D σ H=ta σ H fun vs H1=>∃ v w,vs=[v,w]/\D.nx ((σ.set i (some v)).set j (some w)) H1:=rfl
end L2
namespace Mr
open PySem L2
end Mr
namespace L2
open PySem
section
variable{H:Hp}{Q:VK}{p q:Addr}{xs:List V}
end
end L2
namespace L2
end L2
namespace Mr
open PySem L2
open PyProof.Rows
section
variable{p q f l sp:Addr}{t:Tr}{v:V}{es ls:List V}{zs:List Str}{H0 H H':Hp}{fs:List V}
end
end Mr
namespace L2
open PySem
section
variable{M:Model}{A:Around}{E:Value->Shared->Prop}{s:Shared}
end
open PySem.Spec PyProof.Rows
section
variable{P:Program}{w:World}{H:Hp}{h:Heap}{e:Addr}{C:Value}{d:Option Addr}{tb:Value}
end
section
variable{X:Cx}{pins:List (Addr×Obj)}{σ:St}{H:Hp}{s:Shared}
end
section
variable{P:Program}{w:World}{K:PySem.W.Frag}{mg:Str->Option Value}{base:Heap}{N:List Str}{qual:Str}{scope:Scope}{f:Addr}{cd:Value}{A:Around}{outer:List Env}{s:Shared}{H:Hp}{E:XK}
end
end L2
namespace PySem
section
variable{prog:Program}{w:World}{E:Value->Shared->Prop}{A:Around}{os:OsState}{h:Heap}{t:Nat}{g:Array GenState}{d:Drawn}{kD:List Value}{fI:Addr}{oI:Obj}{mN:Str->Option Value}
 {nm q:Str} {B newId initId:String} {C N:Addr} {bs bm bmB sub:List Value} {hdct ab:Bool} {sn:List Str} {col:Option Bool} {dd:Option Addr} {k0 k1 k2 k3 k5:Option Value}
end
end PySem
namespace L2
open PySem PySem.Spec PyProof.Rows
section
variable{P:Program}{w:World}{H:Hp}{h:Heap}{a:Addr}{o:HO}
end
section
variable{X:Cx}{pins:List (Addr×Obj)}{σ:St}{H:Hp}{s:Shared}
end
section
variable{X:Cx}{CX:CXT}{k:Nat}{f C:Addr}{fd:FuncData}{ps:List Str}{sp:Sp}{E:XK}{x:Str}{p pos:Pos}{e:Expr}{es:List Expr}{t:TA}{B newId initId:String}{bmB:List Value}
end
end L2
namespace L2
open PySem
section
variable{M:Model}{A:Around}{E:Value->Shared->Prop}{env:Env}
variable{nm q:Str}{C N:Addr}{bs bm:List Value}{hdct:Bool}{sn:List Str}{sub:List Value}{ab:Bool}{col:Option Bool}{dd:Option Addr}{k0 k1 k2 k3 k5:Option Value}{newId:String}
end
open PyProof.Rows
section
variable{prog:Program}{w:World}{A:Around}{E:Value->Shared->Prop}{h:Heap}{g:Array GenState}{d:Drawn}{t:Nat}{os:OsState}
variable{nm q:Str}{C N:Addr}{bs bm bmB:List Value}{hdct:Bool}{sn:List Str}{sub:List Value}{ab:Bool}{col:Option Bool}{dd:Option Addr}{k0 k1 k2 k3 k5:Option Value}{B newId initId:String}
end
open PySem.W PySem.Spec PySem.Builtin PySem.Builtin.ObjectAttr
section
variable{prog:Program}{w:World}{A:Around}{E:Value->Shared->Prop}{s:Shared}{K:Frag}{x C:Addr}{ox:Obj}{name:Str}{v:Value}{cd:ClassData}{bmB:List Value}{B:String}{Q:Unit->Shared->Prop}{R:Result->Shared->Prop}
end
end L2
namespace L2
open PySem PySem.W PySem.Spec PyProof.Rows
section
variable{prog:Program}{w:World}{A:Around}{E:Value->Shared->Prop}{s:Shared}{K:Frag}{x C:Addr}{ox:Obj}{od:Option Obj}{name:Str}{expr:Bool}{v:Value}{Q:Value->Shared->Prop}{B:String}
end
section
variable{M:Model}{A:Around}{E:Value->Shared->Prop}{s:Shared}
variable{K:Frag}{e C D:Addr}{oe:Obj}{Q:Bool->Shared->Prop}
end
section
variable{prog:Program}{w:World}{A:Around}{E:Value->Shared->Prop}{s:Shared}{K:Frag}{x C:Addr}{ox:Obj}{od:Option Obj}{B:String}
end
end L2
namespace L2
open PySem PySem.Spec PyProof.Rows
section
variable{X:Cx}{o e value:Expr}{to te tv:TE}{f:Str}{pos pos' apos:Pos}
end
section
variable{P:Program}{w:World}{K:PySem.W.Frag}{mg:Str->Option Value}{base:Heap}{N:List Str}{qual:Str}{scope:Scope}{f:Addr}{cd:Value}{A:Around}{outer:List Env}{s:Shared}{H:Hp}{E:XK}{x:Expr}{te:TE}{pos:Pos}
end
section
variable{X:Cx}{C:Addr}{x:Str}{p pos:Pos}{e:Expr}{es:List Expr}{t:TA}
end
section
variable{X:Cx}{R:Str}{CR:Addr}{rp apos pos:Pos}{a:Expr}{as:List Expr}{t:TA}
end
section
variable{X:Cx}{e:Expr}{te:TE}{z1:Str}{j:Nat}{p p' pos:Pos}
end
section
variable{X:Cx}{pins pins':List (Addr×Obj)}{σ:St}{H:Hp}{s:Shared}{E:Value->Shared->Prop}{e:Value}
end
section
variable{X:Cx}{CX:CXT}{k:Nat}{f:Addr}{fd:FuncData}{ps:List Str}{sp:Sp}{E:St->XK}{x:Str}{p pos:Pos}{e:Expr}{es:List Expr}{t:TA}{pins0:List (Addr×Obj)}
end
section
variable{X:Cx}{pins:List (Addr×Obj)}{σ:St}{H:Hp}{s:Shared}{T:Addr}{oT:Obj}
end
noncomputable abbrev TH:=Addr->Addr->Option Addr->Addr->TS
section
variable{X:Cx}{t:Expr}{tt:TE}{n:Str}{i:Nat}{b0:Stmt}{body:List Stmt}{ts:TS}{pos:Pos}{kD:List ExceptHandler}{th:TH}
end
section
variable{κ:Type}[DecidableEq κ]
noncomputable def aZ8(kvs:List (κ×V))(k:κ):Option V:=(kvs.find? fun kv=>decide (kv.1=k)).map (·.2)
noncomputable def aI3(kvs:List (κ×V))(k:κ)(v:V):List (κ×V):=
 if(kvs.any fun kv=>decide (kv.1=k))=true then kvs.map (fun kv=>if kv.1=k then(kv.1,v)else kv)else kvs++[(k,v)]
theorem qU{p:κ×V}{r:List (κ×V)}{k:κ}(e:p.1=k):aZ8 (p::r) k=some p.2:=by simp[aZ8,List.find?_cons,e]
theorem qV{p:κ×V}{r:List (κ×V)}{k:κ}(e:¬ p.1=k):aZ8 (p::r) k=aZ8 r k:=by simp[aZ8,List.find?_cons,e]
theorem uU(kvs:List (κ×V))(k:κ)(v:V):(aI3 kvs k v).length<=kvs.length+1:=by
 unfold aI3
 split
 ·rw[List.length_map];omega
 ·rw[List.length_append,List.length_cons,List.length_nil];omega
theorem KV.val{kvs:List (κ×V)}{vs:List (κ×Value)}(r:KV kvs vs)(k:κ):bA7 (aZ8 kvs k) (valueAt vs k):=by
 unfold KV at r
 induction r with
 | nil=>exact True.intro
 | @cons p q ps qs h t ih=>
   obtain⟨h1,h2⟩:=h
   by_cases e:p.1=k
   ·have e':q.1=k:=h1.symm.trans e
    have b:valueAt (q::qs) k=some q.2:=by simp[valueAt,List.find?_cons,e']
    rw[qU e,b];exact h2
   ·have e':¬ q.1=k:=fun z=>e (h1.trans z)
    have b:valueAt (q::qs) k=valueAt qs k:=by simp[valueAt,List.find?_cons,e']
    rw[qV e,b];exact ih
theorem KV.any{kvs:List (κ×V)}{vs:List (κ×Value)}(r:KV kvs vs)(k:κ):(kvs.any fun kv=>decide (kv.1=k))=vs.any fun kv=>decide (kv.1=k):=by
 unfold KV at r
 induction r with
 | nil=>rfl
 | cons h t ih=>rw[List.any_cons,List.any_cons,ih,h.1]
theorem KV.repl{kvs:List (κ×V)}{vs:List (κ×Value)}(r:KV kvs vs)(k:κ){y:V}{u:Value}(ry:eR y u) :
  KV (kvs.map fun kv=>if kv.1=k then(kv.1,y)else kv) (vs.map fun kv=>if kv.1=k then(kv.1,u)else kv):=by
 unfold KV at r ⊢
 induction r with
 | nil=>exact .nil
 | @cons p q ps qs h t ih=>
   rw[List.map_cons,List.map_cons]
   refine .cons ?_ ih
   obtain⟨h1,h2⟩:=h
   by_cases e:p.1=k
   ·rw[if_pos e,if_pos (h1.symm.trans e)];exact⟨h1,ry⟩
   ·rw[if_neg e,if_neg (fun z=>e (h1.trans z))];exact⟨h1,h2⟩
theorem KV.put{kvs:List (κ×V)}{vs:List (κ×Value)}(r:KV kvs vs)(k:κ){y:V}{u:Value}(ry:eR y u):KV (aI3 kvs k y) (stored vs k u):=by
 unfold aI3 stored
 rw[r.any k]
 by_cases e:(vs.any fun kv=>decide (kv.1=k))=true
 ·rw[if_pos e,if_pos e];exact r.repl k ry
 ·rw[if_neg e,if_neg e];exact Paired.snoc r ⟨rfl,ry⟩
end
theorem bP8{P:Program}{w:World}{k:Key}{u:Value}(r:eR (kV k) u):(eV P w).is k u=true:=by
 cases k with
 | inl i=>obtain⟨t,e⟩:=(show ∃ t,u=Value.int i t from r);subst e;exact uG P w i t
 | inr x=>obtain⟨t,e⟩:=(show ∃ t,u=Value.str x t from r);subst e;exact uH P w x t
theorem sP{P:Program}{w:World}:∀ {ks:List Key} {us:List Value},cO (ks.map kV) us->ItemsAre (eV P w) ks us
 | [],_,r=>by rw[List.map_nil]at r;cases r;exact .nil
 | k::ks,_,r=>by
   rw[List.map_cons]at r
   cases r with
   | cons h t=>exact .cons (bP8 h) (sP t)
noncomputable abbrev KT(H:Hp):List (List Key×V)->List (List Key×Addr×Value)->Prop:=Paired fun p q=>p.1=q.1/\H q.2.1=some (.tup (p.1.map kV))/\eR p.2 q.2.2
theorem KT.val{H:Hp}{kvs:List (List Key×V)}{xs:List (List Key×Addr×Value)}(r:KT H kvs xs)(k:List Key):bA7 (aZ8 kvs k) ((atKey xs k).map (·.2)):=by
 induction r with
 | nil=>exact True.intro
 | @cons p q ps qs h t ih=>
   obtain⟨h1,_,h2⟩:=h
   by_cases e:p.1=k
   ·have e':q.1=k:=h1.symm.trans e
    have b:atKey (q::qs) k=some q.2:=by simp[atKey,List.find?_cons,e']
    rw[qU e,b];exact h2
   ·have e':¬ q.1=k:=fun z=>e (h1.trans z)
    have b:atKey (q::qs) k=atKey qs k:=by simp[atKey,List.find?_cons,e']
    rw[qV e,b];exact ih
section
variable{P:Program}{w:World}{H:Hp}{h:Heap}{a:Addr}
theorem cE3{u:HO}(ok:HOk P w H h)(e:Rd H a u):dQ P w H h a u:=e.ok ok
theorem cE4{kvs:List (Key×V)}(ok:HOk P w H h)(e:Rd H a (.dK kvs)):kvs.length<=sizeLine/\(a==sysModules)=false/\∃ vs,KV kvs vs/\h.DictOf (eV P w) a vs:=
 show dQ P w H h a (.dK kvs)from cE3 ok e
theorem bK2{ks:List Key}(ok:HOk P w H h)(e:H a=some (.tup (ks.map kV))):(tupleKind (eV P w)).is h ks a:=by
 obtain⟨_,its,r,⟨o,h1,h2,n,h3⟩,_⟩:=(show dQ P w H h a (.tup (ks.map kV))from ok a _ e)
 exact⟨o,its.toArray,n,h1,h2,h3,by simpa using sP r⟩
theorem cE5{kvs:List (List Key×V)}(ok:HOk P w H h)(e:Rd H a (.dT kvs)):kvs.length<=sizeLine/\(a==sysModules)=false /\
  ∃ xs,KT H kvs xs/\h.DictOfH (tupleKind (eV P w)) a xs:=by
 obtain⟨z,y,xs,r,o,es,ep,h1,h2,h3,h4,h5⟩:=(show dQ P w H h a (.dT kvs)from cE3 ok e)
 refine⟨z,y,xs,r,o,es,ep,h1,h2,h3,h4,fun x hx=>?_,h5⟩
 have all:∀ {l:List (List Key×V)} {m:List (List Key×Addr×Value)},KT H l m->∀ x∈m,(tupleKind (eV P w)).is h x.1 x.2.1:=by
  intro l m q
  induction q with
  | nil=>intro x hx;exact nomatch hx
  | @cons p q ps qs hq t ih=>
    intro x hx
    rcases List.mem_cons.mp hx with e | hx
    ·subst e
     exact bK2 ok (by rw[← hq.1];exact hq.2.1)
    ·exact ih x hx
 exact all r x hx
end
noncomputable def cL6(H:Hp)(a:Addr)(y:V)(r:Option V):Prop:=
 (∃ kvs k,Rd H a (.dK kvs)/\y=kV k/\r=aZ8 kvs k)\/∃ kvs k b,Rd H a (.dT kvs)/\y=.ref b/\H b=some (.tup (k.map kV))/\r=aZ8 kvs k
section
variable{X:Cx}{pins:List (Addr×Obj)}{σ:St}{H:Hp}{s:Shared}{a:Addr}{y v:V}{u r:Value}{o:Option V}{A:Around}{E:Value->Shared->Prop}
theorem Inv.big(I:Inv X pins σ H s):sysModules < s.heap.objs.size:=by
 have h:mainGlobals < s.heap.objs.size:=(I.mod.glob.keeps I.bk).lt
 exact Nat.lt_trans (by decide) h
theorem aI4{Q:Value->Shared->Prop}(hu:A.units+1 < cLine)(I:Inv X pins σ H s)(g:cL6 H a y (some v))(ry:eR y u)(h:∀ w' s',Inv X pins σ H s'->eR v w'->Q w' s') :
  wpAny (model X.prog X.w) A (getItem (.ref a) u) Q E s:=by
 rcases g with⟨kvs,k,e,ey,l⟩ | ⟨kvs,k,b,e,ey,eb,l⟩
 ·subst ey
  obtain⟨z,hd,vs,rel,dd⟩:=cE4 I.hok e
  obtain⟨w',hw,rw'⟩:=bA7.some_of (v:=v) (o:=valueAt vs k) (by rw[l];exact rel.val k)
  exact wpAny_getItem_of (bP8 ry) dd.mapOf hw (h w' _ (I.tok _) rw')
 ·subst ey
  cases (show u=Value.ref b from ry)
  obtain⟨z,hd,xs,rel,dd⟩:=cE5 I.hok e
  obtain⟨w',hw,rw'⟩:=bA7.some_of (v:=v) (o:=(atKey xs k).map (·.2)) (by rw[l];exact rel.val k)
  obtain⟨p,hp,hp2⟩:=Option.map_eq_some_iff.mp hw
  refine wpAny_getItem_heap (tupleKind_room_in1 hu) (bK2 I.hok eb) dd hp ?_
  rw[hp2]
  exact h w' _ (I.tok _) rw'
theorem cE6{P:Program}{w:World}{H':Hp}{h':Heap}{kvs:List (Key×V)}{vs:List (Key×Value)}(z:kvs.length<=sizeLine)(hd:(a==sysModules)=false)(rel:KV kvs vs)(dd:h'.DictOf (eV P w) a vs) :
  dQ P w H' h' a (.dK kvs):=⟨z,hd,vs,rel,dd⟩
end
section
variable{X:Cx}{pins:List (Addr×Obj)}{σ:St}{H:Hp}{s:Shared}{a:Addr}{kvs:List (Key×V)}{k:Key}{u:Value}{A:Around}{E:Value->Shared->Prop}
end
noncomputable def cL7(i:Expr):Prop:=∀ ov iv,subscripted i false ov iv=operate [ov,iv] (getItem ov iv)
theorem bP9{prog:Program}{w:World}{A:Around}{E:Value->Shared->Prop}{s:Shared}{env:Env}{value slice:Expr}{pos:Pos}{T id:String}{Q:Value->Shared->Prop}
  (hl:typeLookup (.type T) "__getitem__"=pure (some (.builtin id))) (hs:cL7 slice)
  (h:wpAny (model prog w) A (eval value env) (fun o s₁=>wpAny (model prog w) A (eval slice env) (fun i s₂=>s₂.TypeIs o T/\wpAny (model prog w) A (getItem o i) Q E s₂) E s₁) E s) :
  wpAny (model prog w) A (eval (.Subscript value slice pos) env) Q E s:=by
 refine Subscript_ (wpAny_mono h (fun o s₁ h₁=>wpAny_mono h₁ (fun i s₂ h₂=>?_) fun _ _ x=>x) fun _ _ x=>x)
 obtain⟨hT,h₂⟩:=h₂
 unfold subscriptTail
 refine wpAny_bind ?_
 rw[getitemInPython_of_ne hT.not_modules]
 refine wpAny_bind (wpAny_specialOf hT hl ?_)
 have fin:wpAny (model prog w) A (subscripted slice false o i) (fun r s₃=>wpAny (model prog w) A (letTemporaryGo value o r >>= fun _=>pure r) Q E s₃) E s₂:=by
  rw[hs o i]
  exact wpAny_operating (wpAny_mono h₂ (fun r s₃ h₃=>wpAny_bind (wpAny_letTemporaryGo (wpAny_pure h₃))) fun _ _ x=>x)
 first
  | exact wpAny_pure (wpAny_bind fin)
  | exact wpAny_bind (wpAny_pure (wpAny_bind fin))
  | exact wpAny_bind fin
theorem uV{X:Cx}{pins:List (Addr×Obj)}{σ:St}{H:Hp}{s:Shared}{a:Addr}{y:V}{o:Option V}(I:Inv X pins σ H s)(g:cL6 H a y o):s.TypeIs (.ref a) "dict":=by
 rcases g with⟨kvs,k,e,_,_⟩ | ⟨kvs,k,b,e,_,_,_⟩
 ·obtain⟨_,_,vs,_,dd⟩:=cE4 I.hok e
  exact dd.typeIs
 ·obtain⟨_,_,xs,_,dd⟩:=cE5 I.hok e
  exact dd.typeIs
noncomputable def cP0(td ty:TE):TE:=fun σ H Q=>td σ H fun x H1=>ty σ H1 fun y H2=>∃ a v,x=.ref a/\cL6 H2 a y (some v)/\Q v H2
section
variable{X:Cx}{o i e value:Expr}{pos pos' tpos:Pos}{td ty tv:TE}
theorem bQ0(hu:X.A.units+1 < cLine)(ho:PE X o td)(hi:PE X i ty)(hs:cL7 i):PE X (.Subscript o i pos) (cP0 td ty):=by
 intro pins s σ H Q I h
 refine bP9 PySem.F.slot_dict_getitem.lookup hs (thn (ho pins s σ H _ I h) fun u s1 ⟨x,H1,I1,rx,q1⟩=>thn (hi pins s1 σ H1 _ I1 q1) fun iv s2 ⟨y,H2,I2,ry,a,v,ex,g,q2⟩=>?_)
 subst ex
 obtain rfl:u=Value.ref a:=rx
 exact⟨uV I2 g,aI4 hu I2 g ry fun w' s3 I3 rw'=>⟨v,H2,I3,rw',q2⟩⟩
end
section
variable{X:Cx}{pos:Pos}
end
noncomputable def mB(kvs more:List (Key×V)):List (Key×V):=more.foldl (fun acc kv=>aI3 acc kv.1 kv.2) kvs
theorem KV.merge:∀ {more:List (Key×V)} {rs:List (Key×Value)} {kvs:List (Key×V)} {vs:List (Key×Value)},KV more rs->KV kvs vs->KV (mB kvs more) (merged vs rs):=by
 intro more rs kvs vs r
 unfold KV at r
 induction r generalizing kvs vs with
 | nil=>intro q;exact q
 | @cons p q ps qs h t ih=>
   intro r0
   have e:KV (aI3 kvs p.1 p.2) (stored vs q.1 q.2):=by
    have:=r0.put p.1 h.2
    rw[← h.1];exact this
   exact ih e
theorem kO:∀ (more kvs:List (Key×V)),(mB kvs more).length<=kvs.length+more.length
 | [],kvs=>by show kvs.length<=kvs.length+0;omega
 | p::r,kvs=>by
   have h1:=kO r (aI3 kvs p.1 p.2)
   have h2:=uU kvs p.1 p.2
   show(mB (aI3 kvs p.1 p.2) r).length<=_
   rw[List.length_cons];omega
section
variable{X:Cx}{pins:List (Addr×Obj)}{σ:St}{H:Hp}{s:Shared}{a:Addr}{y d:V}{u r:Value}{o:Option V}{A:Around}{E:Value->Shared->Prop}
end
section
variable{X:Cx}{o e f:Expr}{apos cpos:Pos}{td ty tx:TE}
end
section
variable{X:Cx}{pins:List (Addr×Obj)}{σ:St}{H:Hp}{s:Shared}{a:Addr}{kvs:List (Key×V)}{A:Around}{E:Value->Shared->Prop}
end
section
variable{X:Cx}{pins:List (Addr×Obj)}{σ:St}{H:Hp}{s:Shared}{a:Addr}{y:V}{u:Value}{A:Around}{E:Value->Shared->Prop}
end
section
variable{X:Cx}
end
section
variable{K:PySem.W.Frag}{t:TA}{te to tv:TE}{f:Str}{σ:St}{H:Hp}{Q:VK}{D:Ends}{sp:Sp}{C:Addr}{E:XK}{Ex:St->XK}{tb:(St->XK)->TS}{th:TH}{i:Nat}{ts:TS}
end
end L2
namespace Mr
open PySem L2 PyProof.Rows
end Mr
namespace Mr
open PySem L2
section
variable{K:PySem.W.Frag}{H:Hp}{C t D0 D1 D2 D3:Addr}{b0 b1 b2 b3:Bool}
end
end Mr
namespace L2
open PySem PySem.Spec PyProof.Rows
theorem aI5:∀ {xs:List V} {us:List Value},xs.length=us.length->(∀ (j:Nat) (x:V) (y:Value),xs[j]? = some x->us[j]? = some y->eR x y)->cO xs us
 | [],[],_,_=>.nil
 | [],_::_,h,_=>by simp at h
 | _::_,[],h,_=>by simp at h
 | x::xs,u::us,h,k=>.cons (k 0 x u rfl rfl) (aI5 (by simpa using h) fun j a b ha hb=>k (j+1) a b (by simpa using ha) (by simpa using hb))
section
variable{X:Cx}
noncomputable def yF:List V->Hp->VK->Prop:=fun vs H Q=>∃ n:Int,vs=[.int n]/\0<=n/\n<=1000/\∀ r,H r=none->Q (.ref r) (upd H r (.lst ((List.range n.toNat).map fun(i:Nat)=>V.int (i:Int))))
theorem qW(hc:X.calm=true):∀ pins s σ H vs us Q,Inv X pins σ H s->cO vs us->yF vs H Q ->
  wpAny (model X.prog X.w) X.A (call (.type "range") us) (fun u s1=>wpAny (model X.prog X.w) X.A (call (.type "list") [u]) (EP X pins σ Q) X.xe s1) X.xe s:=by
 intro pins s σ H vs us Q I rv h
 obtain⟨n,rfl,h0,h1,q⟩:=h
 obtain⟨u,rfl,ru⟩:=rv.one
 obtain⟨t,rfl⟩:=ru
 refine call_range_1 ?_
 have hsz:Builtin.Range.rangeSize 0 n 1=((n.toNat:Nat):Int):=by rw[rangeSize_one];split<;>omega
 refine call_list_range (s:={s with heap:=s.heap.push {cls:=.type "range",data:=.fields #[.int 0 s.toks,.int n t,.int 1 (s.toks+1)]},toks:=s.toks+1+1}) (I.ok.hd hc) (IsRange.new ..) (small_one (by omega) (by omega) (by omega) (by omega)) hsz (by omega) fun h' tk acc c hk hS hacc=>?_
 have hpz:(s.heap.push {cls:=.type "range",data:=.fields #[.int 0 s.toks,.int n t,.int 1 (s.toks+1)]}).objs.size=s.heap.objs.size+1:=Heap.size_push ..
 have hv:cO ((List.range n.toNat).map fun(i:Nat)=>V.int (i:Int)) acc.toList:=by
  obtain⟨hl,hat⟩:=hacc
  refine aI5 (by rw[List.length_map,List.length_range,Array.length_toList,hl]) fun j x y hx hy=>?_
  rw[Array.getElem?_toList]at hy
  obtain⟨t',rfl⟩:=hat j y hy
  rw[List.getElem?_map]at hx
  obtain⟨i,hi,rfl⟩:=Option.map_eq_some_iff.mp hx
  obtain⟨_,e⟩:=List.getElem?_eq_some_iff.mp hi
  rw[List.getElem_range]at e
  subst e
  refine⟨t',?_⟩
  simp
 refine⟨.ref (s.heap.objs.size+1),upd H (s.heap.objs.size+1) _,?_,by show Value.ref _=_;rw[hpz],q _ (I.hok.fresh (Nat.le_succ _))⟩
 refine I.laid (t':=tk) (fun b o q'=>hk b o (Heap.get?_push_of_some _ q')) (Nat.le_succ _) ⟨by rw[List.length_map,List.length_range];exact Nat.le_trans (by omega:n.toNat<=1000) (by decide),acc.toList,c,hv,?_⟩
 have h3:h'.get? (s.heap.objs.size+1)=some (cU5 acc c):=by rw[← hpz];exact hS
 rw[h3,Array.toArray_toList]
end
section
variable{t tk tv td ty tx:TE}{r:List (TE×TE)}{σ:St}{H:Hp}{Q:VK}{R:List (V×V)->Hp->Prop}
end
end L2
namespace Mr
open PySem L2 PyProof.Rows
theorem pL{m:Nat}{sep:Str}(hs:∀ c∈sep.cps.toList,c < m):∀ zs:List Str,(∀ z∈zs,∀ c∈z.cps.toList,c < m)->∀ c∈(Str.join sep zs).cps.toList,c < m
 | [],_=>fun c hc=>by simp[Str.join,Str.empty]at hc
 | [x],h=>fun c hc=>h x List.mem_cons_self c hc
 | x::y::r,h=>fun c hc=>by
   have ih:=pL hs (y::r) fun z hz=>h z (List.mem_cons_of_mem _ hz)
   have e:(Str.join sep (x::y::r)).cps.toList=x.cps.toList++sep.cps.toList++(Str.join sep (y::r)).cps.toList:=by
    show(x++sep++Str.join sep (y::r)).cps.toList=_
    rw[Str.cps_append,Str.cps_append,Array.toList_append,Array.toList_append]
   rw[e]at hc
   rcases List.mem_append.mp hc with hc | hc
   ·rcases List.mem_append.mp hc with hc | hc
    ·exact h x List.mem_cons_self c hc
    ·exact hs c hc
   ·exact ih c hc
theorem uW{m:Nat}{sep:Str}(hs:∀ c∈sep.cps.toList,c < m)(zs:List Str)(h:∀ z∈zs,∀ c∈z.cps.toList,c < m):∀ c∈(PySem.Txt.join sep zs).cps.toList,c < m:=by
 show ∀ c∈(PySem.Builtin.Str.glued sep zs).cps.toList,c < m
 rw[StrLaws.glued_eq_join]
 exact pL hs zs h
theorem bQ1:∀ c∈(Str.ofString "abcdefghijklmnopqrstuvwxyz").cps.toList,c < 128:=by decide
end Mr
namespace Dv
open PySem L2
inductive D where
 | non | bl (b:Bool) | int (i:Int) | str (x:Str) | tup (l:List D) | lst (l:List D) | dic (ks vs:List D)
noncomputable instance:DecidableEq D:=fun _ _=>Classical.propDecidable _
noncomputable instance:Inhabited D:=⟨.non⟩
noncomputable def bQ2:Key->D
 | .inl i=>.int i
 | .inr x=>.str x
noncomputable def bQ3:HO->List D->List V->Prop
 | .dK kvs,ks,ws=>ks=kvs.map (fun kv=>bQ2 kv.1)/\ws=kvs.map (·.2)
 | .dT kvs,ks,ws=>ks=kvs.map (fun kv=>D.tup (kv.1.map bQ2))/\ws=kvs.map (·.2)
 | _,_,_=>False
mutual
inductive Rp(H:Hp):D->V->Prop
 | non:Rp H .non .non
 | bl (b:Bool):Rp H (.bl b) (.bl b)
 | int (i:Int):Rp H (.int i) (.int i)
 | str (x:Str):Rp H (.str x) (.str x)
 | tup {l:List D} {p:Addr} {xs:List V}:H p=some (.tup xs)->Rps H l xs->Rp H (.tup l) (.ref p)
 | lst {l:List D} {p:Addr} {xs:List V} {o:Obj}:H p=some (.frz o (.lst xs))->Rps H l xs->Rp H (.lst l) (.ref p)
 | dic {ks vs:List D} {p:Addr} {o:Obj} {u:HO} {ws:List V}:H p=some (.frz o u)->bQ3 u ks ws->Rps H vs ws->Rp H (.dic ks vs) (.ref p)
inductive Rps(H:Hp):List D->List V->Prop
 | nil:Rps H [] []
 | cons {d:D} {r:List D} {x:V} {xs:List V}:Rp H d x->Rps H r xs->Rps H (d::r) (x::xs)
end
structure Ext(H H':Hp):Prop where
 tup:∀ p xs,H p=some (.tup xs)->H' p=some (.tup xs)
 frz:∀ p o u,H p=some (.frz o u)->H' p=some (.frz o u)
theorem Ext.same{H H':Hp}(h:uN H H'):Ext H H':=⟨fun p xs e=>h p _ e,fun p o u e=>h p _ e⟩
mutual
theorem Rp.mono{H H':Hp}(he:Ext H H'):∀ {d:D} {x:V},Rp H d x->Rp H' d x
 | _,_,.non=>.non
 | _,_,.bl b=>.bl b
 | _,_,.int i=>.int i
 | _,_,.str x=>.str x
 | _,_,.tup h r=>.tup (he.tup _ _ h) (Rps.mono he r)
 | _,_,.lst h r=>.lst (he.frz _ _ _ h) (Rps.mono he r)
 | _,_,.dic h k r=>.dic (he.frz _ _ _ h) k (Rps.mono he r)
theorem Rps.mono{H H':Hp}(he:Ext H H'):∀ {l:List D} {xs:List V},Rps H l xs->Rps H' l xs
 | _,_,.nil=>.nil
 | _,_,.cons a r=>.cons (Rp.mono he a) (Rps.mono he r)
end
section
variable{H:Hp}
theorem Rps.length:∀ {l:List D} {xs:List V},Rps H l xs->l.length=xs.length
 | _,_,.nil=>rfl
 | _,_,.cons _ r=>by simp[Rps.length r]
theorem Rps.get:∀ {l:List D} {xs:List V} {i:Nat} {d:D},Rps H l xs->l[i]? = some d->∃ x,xs[i]? = some x/\Rp H d x
 | _,_,_,_,.nil,h=>by simp at h
 | _,_,0,_,.cons a r,h=>by simp at h;subst h;exact⟨_,rfl,a⟩
 | _,_,i+1,_,.cons a r,h=>by
   obtain⟨x,e,q⟩:=Rps.get (i:=i) r (by simpa using h)
   exact⟨x,by simpa using e,q⟩
theorem Rps.append:∀ {l m:List D} {xs ys:List V},Rps H l xs->Rps H m ys->Rps H (l++m) (xs++ys)
 | _,_,_,_,.nil,h=>h
 | _,_,_,_,.cons a r,h=>.cons a (Rps.append r h)
theorem Rps.take:∀ {l:List D} {xs:List V} (n:Nat),Rps H l xs->Rps H (l.take n) (xs.take n)
 | _,_,0,_=>.nil
 | _,_,_+1,.nil=>.nil
 | _,_,n+1,.cons a r=>.cons a (Rps.take n r)
theorem Rps.drop:∀ {l:List D} {xs:List V} (n:Nat),Rps H l xs->Rps H (l.drop n) (xs.drop n)
 | _,_,0,r=>r
 | _,_,_+1,.nil=>.nil
 | _,_,n+1,.cons _ r=>Rps.drop n r
theorem Rps.set:∀ {l:List D} {xs:List V} {d:D} {x:V} (i:Nat),Rps H l xs->Rp H d x->Rps H (l.set i d) (xs.set i x)
 | _,_,_,_,_,.nil,_=>.nil
 | _,_,_,_,0,.cons _ r,q=>.cons q r
 | _,_,_,_,i+1,.cons a r,q=>.cons a (Rps.set i r q)
theorem Rps.eraseIdx:∀ {l:List D} {xs:List V} (i:Nat),Rps H l xs->Rps H (l.eraseIdx i) (xs.eraseIdx i)
 | _,_,_,.nil=>.nil
 | _,_,0,.cons _ r=>r
 | _,_,i+1,.cons a r=>.cons a (Rps.eraseIdx i r)
theorem iG:∀ ns:List Int,Rps H (ns.map D.int) (ns.map V.int)
 | []=>.nil
 | n::r=>.cons (.int n) (iG r)
theorem Rps.ints_inv:∀ {ns:List Int} {xs:List V},Rps H (ns.map D.int) xs->xs=ns.map V.int
 | [],_,h=>by cases h;rfl
 | n::r,_,h=>by
   rw[List.map_cons]at h
   cases h with
   | cons a t=>cases a;rw[Rps.ints_inv t];rfl
theorem Rps.strs_inv:∀ {ns:List Str} {xs:List V},Rps H (ns.map D.str) xs->xs=ns.map V.str
 | [],_,h=>by cases h;rfl
 | n::r,_,h=>by
   rw[List.map_cons]at h
   cases h with
   | cons a t=>cases a;rw[Rps.strs_inv t];rfl
theorem Rps.bls_inv:∀ {ns:List Bool} {xs:List V},Rps H (ns.map D.bl) xs->xs=ns.map V.bl
 | [],_,h=>by cases h;rfl
 | n::r,_,h=>by
   rw[List.map_cons]at h
   cases h with
   | cons a t=>cases a;rw[Rps.bls_inv t];rfl
end
inductive Md where
 | val | own | par | lent
 deriving DecidableEq
noncomputable def Md.mt:Md->Bool
 | .own=>true
 | .par=>true
 | _=>false
structure Sl where
 m:Md
 d:D
noncomputable abbrev Sg:=List (Option Sl)
noncomputable def dR(H:Hp)(d:D)(p:Addr):Prop:=match d with
 | .lst l=>∃ xs,H p=some (.lst xs)/\Rps H l xs
 | .dic ks vs=>∃ u ws,H p=some u/\bQ3 u ks ws/\Rps H vs ws
 | _=>False
theorem dR.mono{H H':Hp}{d:D}{p:Addr}(h:dR H d p)(e:Ext H H')(hp:∀ o,H p=some o->H' p=some o):dR H' d p:=by
 unfold dR at h ⊢
 split at h
 ·obtain⟨xs,h1,h2⟩:=h;exact⟨xs,hp _ h1,h2.mono e⟩
 ·obtain⟨u,ws,h1,h2,h3⟩:=h;exact⟨u,ws,hp _ h1,h2,h3.mono e⟩
 ·exact h.elim
theorem dR.obj{H:Hp}{d:D}{p:Addr}(h:dR H d p):∃ o,H p=some o/\(∀ xs,o≠.tup xs)/\∀ ob u,o≠.frz ob u:=by
 unfold dR at h
 split at h
 ·obtain⟨xs,h1,h2⟩:=h;exact⟨_,h1,⟨fun _ z=>(by cases z),fun _ _ z=>(by cases z)⟩⟩
 ·obtain⟨u,ws,h1,h2,h3⟩:=h
  refine⟨_,h1,fun _ z=>?_,fun _ _ z=>?_⟩<;>(subst z;exact h2)
 ·exact h.elim
noncomputable def bC9(H:Hp)(s:Sl)(v:V):Prop:=match s.m with
 | .val=>Rp H s.d v
 | _=>∃ p,v=.ref p/\dR H s.d p
theorem cU{H:Hp}{s:Sl}{v:V}(h:s.m≠.val):bC9 H s v↔∃ p,v=.ref p/\dR H s.d p:=by
 obtain⟨m,d⟩:=s
 cases m with
 | val=>exact absurd rfl h
 | own=>exact Iff.rfl
 | par=>exact Iff.rfl
 | lent=>exact Iff.rfl
noncomputable def Vw(H:Hp)(d:D)(v:V):Prop:=Rp H d v\/∃ p,v=.ref p/\dR H d p
theorem bC9.vw{H:Hp}{s:Sl}{v:V}(h:bC9 H s v):Vw H s.d v:=by
 by_cases e:s.m=.val
 ·obtain⟨m,d⟩:=s;cases e;exact .inl h
 ·exact .inr ((cU e).mp h)
inductive Vws(H:Hp):List D->List V->Prop
 | nil:Vws H [] []
 | cons {d:D} {r:List D} {x:V} {xs:List V}:Vw H d x->Vws H r xs->Vws H (d::r) (x::xs)
noncomputable def mQ(σ:Sg)(σV:St)(a:Addr):Prop:=∃ (i:Nat) (s:Sl),σ[i]? = some (some s)/\s.m.mt=true/\σV[i]? = some (some (.ref a))
noncomputable def aZ9(σ:Sg)(σV:St)(a:Addr):Prop:=∃ (i:Nat) (s:Sl),σ[i]? = some (some s)/\s.m≠.val/\σV[i]? = some (some (.ref a))
theorem mQ.nv{σ:Sg}{σV:St}{a:Addr}(h:mQ σ σV a):aZ9 σ σV a:=by
 obtain⟨i,s,h1,h2,h3⟩:=h
 exact⟨i,s,h1,fun z=>(by rw[z]at h2;cases h2),h3⟩
structure Gm where
 H₀:Hp
 pr:Addr->Prop
structure StOk(Γ:Gm)(H:Hp)(σ:Sg)(σV:St):Prop where
 rel:∀ (i:Nat) s,σ[i]? = some (some s)->∃ v,σV[i]? = some (some v)/\bC9 H s v
 dis:∀ (i j:Nat) s t p,i≠j->σ[i]? = some (some s)->σ[j]? = some (some t)->s.m.mt=true->t.m≠.val->σV[i]? = some (some (.ref p))->σV[j]? = some (some (.ref p))->False
 own:∀ (i:Nat) s p,σ[i]? = some (some s)->s.m=.own->σV[i]? = some (some (.ref p))->Γ.H₀ p=none
 par:∀ (i:Nat) s p,σ[i]? = some (some s)->s.m=.par->σV[i]? = some (some (.ref p))->Γ.pr p
 keep:∀ a o,Γ.H₀ a=some o->¬ Γ.pr a->H a=some o
 dom:∀ a,H a=none->Γ.H₀ a=none
 len:σ.length=σV.length
structure Step(σ:Sg)(σV:St)(H:Hp)(σ':Sg)(σV':St)(H':Hp):Prop where
 fr:∀ a o,H a=some o->¬ mQ σ σV a->H' a=some o
 dom:∀ a,H' a=none->H a=none
 mu:∀ a,mQ σ' σV' a->mQ σ σV a\/H a=none
 nv:∀ a,aZ9 σ' σV' a->aZ9 σ σV a\/H a=none
 kp:∀ (i:Nat) s,σ[i]? = some (some s)->∃ s',σ'[i]? = some (some s')
 fix:∀ (i:Nat) s,σ[i]? = some (some s)->(s.m=.par\/s.m=.lent)->∃ s',σ'[i]? = some (some s')/\s'.m=s.m/\(s.m=.lent->s'.d=s.d)/\σV'[i]? = σV[i]?
 lt:∀ (i:Nat) s',σ'[i]? = some (some s')->s'.m=.lent->∃ s,σ[i]? = some (some s)/\s.m=.lent
section
variable{σ σ1 σ2:Sg}{σV σV1 σV2:St}{H H1 H2:Hp}{Γ:Gm}
theorem Step.refl:Step σ σV H σ σV H:=⟨fun _ _ h _=>h,fun _ h=>h,fun _ h=>.inl h,fun _ h=>.inl h,fun i s h=>⟨s,h⟩,fun i s h _=>⟨s,h,rfl,fun _=>rfl,rfl⟩,fun i s h m=>⟨s,h,m⟩⟩
theorem Step.trans(a:Step σ σV H σ1 σV1 H1)(b:Step σ1 σV1 H1 σ2 σV2 H2):Step σ σV H σ2 σV2 H2 where
 fr:=fun c o h n=>b.fr c o (a.fr c o h n) fun z=>by
  rcases a.mu c z with q | q
  ·exact n q
  ·rw[h]at q;cases q
 dom:=fun c h=>a.dom c (b.dom c h)
 mu:=fun c h=>by
  rcases b.mu c h with q | q
  ·exact a.mu c q
  ·exact .inr (a.dom c q)
 nv:=fun c h=>by
  rcases b.nv c h with q | q
  ·exact a.nv c q
  ·exact .inr (a.dom c q)
 kp:=fun i s h=>by
  obtain⟨s1,h1⟩:=a.kp i s h
  exact b.kp i s1 h1
 fix:=fun i s h hm=>by
  obtain⟨s1,h1,m1,d1,v1⟩:=a.fix i s h hm
  obtain⟨s2,h2,m2,d2,v2⟩:=b.fix i s1 h1 (by rw[m1];exact hm)
  exact⟨s2,h2,m2.trans m1,fun z=>(d2 (m1.trans z)).trans (d1 z),v2.trans v1⟩
 lt:=fun i s h m=>by
  obtain⟨s1,h1,m1⟩:=b.lt i s h m
  exact a.lt i s1 h1 m1
theorem StOk.mutObj(ok:StOk Γ H σ σV){a:Addr}(h:aZ9 σ σV a):∃ o,H a=some o/\(∀ xs,o≠.tup xs)/\∀ ob u,o≠.frz ob u:=by
 obtain⟨i,s,h1,h2,h3⟩:=h
 obtain⟨v,e,r⟩:=ok.rel i s h1
 rw[h3]at e;cases e
 obtain⟨p,e,q⟩:=(cU h2).mp r
 cases e
 exact q.obj
theorem Step.ext(st:Step σ σV H σ1 σV1 H1)(ok:StOk Γ H σ σV):Ext H H1:=by
 refine⟨fun p xs h=>st.fr p _ h fun z=>?_,fun p o u h=>st.fr p _ h fun z=>?_⟩
 ·obtain⟨o,e,n,_⟩:=ok.mutObj z.nv;rw[h]at e;cases e;exact n _ rfl
 ·obtain⟨o,e,_,n⟩:=ok.mutObj z.nv;rw[h]at e;cases e;exact n _ _ rfl
theorem bC9.mono{s:Sl}{v:V}(r:bC9 H s v)(e:Ext H H1)(hp:∀ p o,v=.ref p->s.m≠.val->H p=some o->H1 p=some o):bC9 H1 s v:=by
 by_cases q:s.m=.val
 ·obtain⟨m,d⟩:=s;cases q;exact Rp.mono e r
 ·obtain⟨p,e1,r1⟩:=(cU q).mp r
  exact(cU q).mpr ⟨p,e1,r1.mono e fun o=>hp p o e1 q⟩
theorem StOk.same(ok:StOk Γ H σ σV)(h:uN H H1):StOk Γ H1 σ σV:=
 ⟨fun i s e=>by
  obtain⟨v,e1,r⟩:=ok.rel i s e
  exact⟨v,e1,r.mono (.same h) fun p o _ _ q=>h p o q⟩,ok.dis,ok.own,ok.par,fun a o e n=>h a o (ok.keep a o e n),fun a e=>ok.dom a (by
  cases q:H a with
  | none=>rfl
  | some o=>rw[h a o q]at e;cases e),ok.len⟩
theorem aI6(h:uN H H1){a:Addr}(e:H1 a=none):H a=none:=by
 cases q:H a with
 | none=>rfl
 | some o=>rw[h a o q]at e;cases e
theorem Step.same(h:uN H H1):Step σ σV H σ σV H1:=⟨fun a o e _=>h a o e,fun a e=>aI6 h e,fun _ h=>.inl h,fun _ h=>.inl h,fun i s h=>⟨s,h⟩,fun i s h _=>⟨s,h,rfl,fun _=>rfl,rfl⟩,fun i s h m=>⟨s,h,m⟩⟩
end
inductive Res where
 | val (d:D) | own (d:D) | slot (i:Nat)
noncomputable def iW(Γ:Gm)(H:Hp)(σ:Sg)(σV:St)(r:Res)(v:V):Prop:=match r with
 | .val d=>Rp H d v
 | .own d=>∃ p,v=.ref p/\dR H d p/\¬ aZ9 σ σV p/\Γ.H₀ p=none
 | .slot i=>σV[i]? = some (some v)/\∃ s,σ[i]? = some (some s)
noncomputable def rd(σ:Sg):Res->Option D
 | .val d=>some d
 | .own d=>some d
 | .slot i=>match σ[i]? with
   | some (some s)=>some s.d
   | _=>none
section
variable{σ σ1:Sg}{σV σV1:St}{H H1:Hp}{Γ:Gm}{r:Res}{v:V}{d:D}
theorem iW.vw(ok:StOk Γ H σ σV)(h:iW Γ H σ σV r v)(e:rd σ r=some d):Vw H d v:=by
 cases r with
 | val d'=>cases e;exact .inl h
 | own d'=>cases e;obtain⟨p,e1,e2,_⟩:=h;exact .inr ⟨p,e1,e2⟩
 | slot i=>
   obtain⟨h1,s,h2⟩:=h
   have e':some s.d=some d:=by
    have:rd σ (.slot i)=some s.d:=by show(match σ[i]? with | some (some s)=>some s.d | _=>none)=_;rw[h2]
    rw[← this];exact e
   cases e'
   obtain⟨w,e1,e2⟩:=ok.rel i s h2
   rw[h1]at e1;cases e1
   exact e2.vw
theorem iW.step(ok:StOk Γ H σ σV)(h:iW Γ H σ σV r v)(st:Step σ σV H σ1 σV H1):iW Γ H1 σ1 σV r v:=by
 cases r with
 | val d=>exact Rp.mono (st.ext ok) h
 | own d=>
   obtain⟨p,e1,e2,e3,e4⟩:=h
   obtain⟨o,ho,_⟩:=e2.obj
   refine⟨p,e1,e2.mono (st.ext ok) fun o h=>st.fr p o h fun z=>e3 z.nv,fun z=>?_,e4⟩
   rcases st.nv p z with q | q
   ·exact e3 q
   ·rw[ho]at q;cases q
 | slot i=>
   obtain⟨h1,s,h2⟩:=h
   exact⟨h1,st.kp i s h2⟩
end
noncomputable abbrev DE:=Sg->Option (Res×Sg)
noncomputable abbrev DT:=Sg->Option (Bool×Sg)
noncomputable abbrev DA:=Sg->Option (List Res×Sg)
inductive ResOks(Γ:Gm)(H:Hp)(σ:Sg)(σV:St):List Res->List V->Prop
 | nil:ResOks Γ H σ σV [] []
 | cons {r:Res} {rs:List Res} {v:V} {vs:List V}:iW Γ H σ σV r v->ResOks Γ H σ σV rs vs->(∀ d p,r=.own d->v=.ref p->∀ (j:Nat) d',rs[j]? = some (.own d')->vs[j]? ≠ some (.ref p))->ResOks Γ H σ σV (r::rs) (v::vs)
noncomputable def Frh(H:Hp)(r:Res)(v:V):Prop:=∀ d p,r=.own d->v=.ref p->H p=none
theorem iH{H:Hp}{d:D}{v:V}:Frh H (.val d) v:=fun _ _ e=>nomatch e
theorem Frh.back{H H1:Hp}{r:Res}{v:V}{σ σ1:Sg}{σV σV1:St}(f:Frh H1 r v)(st:Step σ σV H σ1 σV1 H1):Frh H r v:=fun d p e1 e2=>st.dom p (f d p e1 e2)
noncomputable def dTE(Γ:Gm)(r:DE):TE:=fun σV H Q=>∃ σ,StOk Γ H σ σV/\∃ res σ',r σ=some (res,σ') /\
 ∀ v H',StOk Γ H' σ' σV->iW Γ H' σ' σV res v->Step σ σV H σ' σV H'->Frh H res v->Q v H'
theorem peW{X:Cx}{e:Expr}{t t':TE}(h:PE X e t)(w:∀ σ H Q,t' σ H Q->t σ H Q):PE X e t':=fun pins s σ H Q I q=>h pins s σ H Q I (w σ H Q q)
theorem ptW{X:Cx}{e:Expr}{t t':TT}(h:PT X e t)(w:∀ σ H Q,t' σ H Q->t σ H Q):PT X e t':=fun pins s σ H Q I q=>h pins s σ H Q I (w σ H Q q)
theorem pwW{X:Cx}{e:Expr}{t t':TT}(h:PW X e t)(w:∀ σ H Q,t' σ H Q->t σ H Q):PW X e t':=fun wh pins s σ H Q I q=>h wh pins s σ H Q I (w σ H Q q)
theorem paW{X:Cx}{e:List Expr}{t t':TA}(h:PA X e t)(w:∀ σ H Q,t' σ H Q->t σ H Q):PA X e t':=fun pos pins s σ H Q I q=>h pos pins s σ H Q I (w σ H Q q)
theorem psW{X:Cx}{e:Stmt}{t t':TS}(h:PS X e t)(w:∀ D σ H,t' D σ H->t D σ H):PS X e t':=fun pins s σ H D I q=>h pins s σ H D I (w D σ H q)
theorem cE7{X:Cx}{e:List Stmt}{t t':TS}(h:PSs X e t)(w:∀ D σ H,t' D σ H->t D σ H):PSs X e t':=fun pins s σ H D I q=>h pins s σ H D I (w D σ H q)
structure GE(X:Cx)(e:Expr)(r:DE):Prop where
 to:∀ Γ,PE X e (dTE Γ r)
noncomputable def dTT(Γ:Gm)(r:DT):TT:=fun σV H Q=>∃ σ,StOk Γ H σ σV/\∃ b σ',r σ=some (b,σ')/\∀ H',StOk Γ H' σ' σV->Step σ σV H σ' σV H'->Q b H'
structure GT(X:Cx)(e:Expr)(r:DT):Prop where
 to:∀ Γ,PT X e (dTT Γ r)
structure GW(X:Cx)(e:Expr)(r:DT):Prop where
 to:∀ Γ,PW X e (dTT Γ r)
theorem GW.gt{X:Cx}{e:Expr}{r:DT}(h:GW X e r):GT X e r:=.mk fun Γ=>(h.to Γ).pt
noncomputable def cU7(H:Hp)(rs:List Res)(vs:List V):Prop:=∀ (j:Nat) d p,rs[j]? = some (.own d)->vs[j]? = some (.ref p)->H p=none
noncomputable def dTA(Γ:Gm)(r:DA):TA:=fun σV H Q=>∃ σ,StOk Γ H σ σV/\∃ rs σ',r σ=some (rs,σ')/\∀ vs H',StOk Γ H' σ' σV->ResOks Γ H' σ' σV rs vs->Step σ σV H σ' σV H'->cU7 H rs vs->Q vs H'
structure GA(X:Cx)(es:List Expr)(r:DA):Prop where
 to:∀ Γ,PA X es (dTA Γ r)
noncomputable def aH(i:Nat):DE:=fun σ=>match σ[i]? with
 | some (some s)=>some (if s.m=.val then .val s.d else .slot i,σ)
 | _=>none
theorem aA{X:Cx}{e:Expr}{i:Nat}(h:PE X e (aC7 i)):GE X e (aH i):=.mk fun Γ=>peW h fun σV H Q ⟨σ,ok,res,σ',e,k⟩=>by
 unfold aH at e
 split at e
 ·rename_i s hs
  cases e
  obtain⟨v,hv,r⟩:=ok.rel i s hs
  refine⟨v,hv,k v H ok ?_ .refl (by split<;>exact fun _ _ e=>nomatch e)⟩
  by_cases hm:s.m=.val
  ·rw[if_pos hm];obtain⟨m,d⟩:=s;cases hm;exact r
  ·rw[if_neg hm];exact⟨hv,s,hs⟩
 ·cases e
noncomputable def dC(d:D):DE:=fun σ=>some (.val d,σ)
theorem cL8{X:Cx}{e:Expr}{v:V}{d:D}(h:PE X e (tC v))(hr:∀ H,Rp H d v):GE X e (dC d):=.mk fun Γ=>peW h fun σV H Q ⟨σ,ok,res,σ',e,k⟩=>by
 cases e;exact k v H ok (hr H) .refl iH
theorem ge_int{X:Cx}{i:Int}{j pos}:GE X (.Constant (.int i) j pos) (dC (.int i)):=cL8 eU fun _=>.int i
theorem uX{X:Cx}{i:Bool}{j pos}:GE X (.Constant (.bool i) j pos) (dC (.bl i)):=cL8 cM8 fun _=>.bl i
theorem aI7{X:Cx}{i:Str}{j pos}:GE X (.Constant (.str i) j pos) (dC (.str i)):=cL8 bH3 fun _=>.str i
theorem yG{X:Cx}{j pos}:GE X (.Constant .none j pos) (dC .non):=cL8 bZ4 fun _=>.non
noncomputable def uY(H H':Hp)(r:Res)(v:V):Prop:=match r with
 | .val d=>Rp H' d v
 | .own d=>∃ p,v=.ref p/\H p=none/\dR H' d p
 | .slot _=>False
theorem uY.frh{H H':Hp}{r:Res}{v:V}(h:uY H H' r v):Frh H r v:=fun d p e1 e2=>by
 subst e1 e2
 obtain⟨q,e,h1,_⟩:=h
 cases e;exact h1
theorem uY.res{Γ:Gm}{H H':Hp}{σ:Sg}{σV:St}{r:Res}{v:V}(h:uY H H' r v)(ok:StOk Γ H σ σV):iW Γ H' σ σV r v:=by
 cases r with
 | val d=>exact h
 | own d=>
   obtain⟨p,e1,e2,e3⟩:=h
   refine⟨p,e1,e3,fun z=>?_,ok.dom p e2⟩
   obtain⟨o,e,_⟩:=ok.mutObj z
   rw[e2]at e;cases e
 | slot i=>exact h.elim
noncomputable abbrev F1:=D->Option Res
noncomputable abbrev F2:=D->D->Option Res
noncomputable abbrev FN:=List D->Option Res
noncomputable def bX1(rr:V->Hp->VK->Prop)(f:F1):Prop:=∀ H d x Q res,Vw H d x->f d=some res->(∀ v H',uN H H'->uY H H' res v->Q v H')->rr x H Q
noncomputable def pA(rr:R2)(f:F2):Prop:=∀ H d1 d2 x y Q res,Vw H d1 x->Vw H d2 y->f d1 d2=some res->(∀ v H',uN H H'->uY H H' res v->Q v H')->rr x y H Q
noncomputable def bA0(rr:List V->Hp->VK->Prop)(f:FN):Prop:=∀ H ds vs Q res,Vws H ds vs->f ds=some res->(∀ v H',uN H H'->uY H H' res v->Q v H')->rr vs H Q
noncomputable def bA1(f:F1)(ra:DE):DE:=fun σ=>(ra σ).bind fun x=>(rd x.2 x.1).bind fun d=>(f d).bind fun r=>some (r,x.2)
noncomputable def aV(f:F2)(ra rb:DE):DE:=fun σ=>(ra σ).bind fun x=>(rb x.2).bind fun y=>(rd y.2 x.1).bind fun d=>(rd y.2 y.1).bind fun e=>(f d e).bind fun r=>some (r,y.2)
theorem aD{α β:Type}{o:Option α}{f:α->Option β}{b:β}(h:o.bind f=some b):∃ a,o=some a/\f a=some b:=by
 cases o with
 | none=>cases h
 | some a=>exact⟨a,rfl,h⟩
theorem kP{Γ:Gm}{rr:R2}{f:F2}(hp:pA rr f){ra rb:DE}{σV:St}{H:Hp}{Q:VK}(h:dTE Γ (aV f ra rb) σV H Q):tOp rr (dTE Γ ra) (dTE Γ rb) σV H Q:=by
 obtain⟨σ,ok,res,σ',e,k⟩:=h
 obtain⟨⟨x,σ1⟩,e1,e⟩:=aD e
 obtain⟨⟨y,σ2⟩,e2,e⟩:=aD e
 obtain⟨d1,e3,e⟩:=aD e
 obtain⟨d2,e4,e⟩:=aD e
 obtain⟨r,e5,e⟩:=aD e
 cases e
 refine⟨σ,ok,x,σ1,e1,fun v1 H1 ok1 r1 st1 _=>⟨σ1,ok1,y,σ2,e2,fun v2 H2 ok2 r2 st2 _=>?_⟩⟩
 have r1':=r1.step ok1 st2
 refine hp H2 d1 d2 v1 v2 Q _ (r1'.vw ok2 e3) (r2.vw ok2 e4) e5 fun v H' sm nw=>?_
 exact k v H' (ok2.same sm) (nw.res ok2) ((st1.trans st2).trans (.same sm)) (nw.frh.back (st1.trans st2))
theorem yH{Γ:Gm}{rr:V->Hp->VK->Prop}{f:F1}(hp:bX1 rr f){ra:DE}{σV:St}{H:Hp}{Q:VK}(h:dTE Γ (bA1 f ra) σV H Q):tUn rr (dTE Γ ra) σV H Q:=by
 obtain⟨σ,ok,res,σ',e,k⟩:=h
 obtain⟨⟨x,σ1⟩,e1,e⟩:=aD e
 obtain⟨d1,e3,e⟩:=aD e
 obtain⟨r,e5,e⟩:=aD e
 cases e
 refine⟨σ,ok,x,σ1,e1,fun v1 H1 ok1 r1 st1 _=>?_⟩
 refine hp H1 d1 v1 Q _ (r1.vw ok1 e3) e5 fun v H' sm nw=>?_
 exact k v H' (ok1.same sm) (nw.res ok1) (st1.trans (.same sm)) (nw.frh.back st1)
section
variable{X:Cx}{a b:Expr}{ra rb:DE}{pos:Pos}
theorem aU{op:Operator}{rr:R2}{f:F2}(ho:OpR X (binaryOp op) rr)(hp:pA rr f)(ha:GE X a ra)(hb:GE X b rb):GE X (.BinOp a op b pos) (aV f ra rb):=
 .mk fun Γ=>peW (zO ho (ha.to Γ) (hb.to Γ)) fun _ _ _=>kP hp
theorem cP1{op:UnaryOp}{rr:V->Hp->VK->Prop}{f:F1}(ho:UnR X (unaryOp op) rr)(hp:bX1 rr f)(ha:GE X a ra):GE X (.UnaryOp op a pos) (bA1 f ra):=
 .mk fun Γ=>peW (cN4 ho (ha.to Γ)) fun _ _ _=>yH hp
theorem kQ{op:CmpOp}{rr:R2}{f:F2}(ho:OpR X (compareOp op) rr)(hp:pA rr f)(ha:GE X a ra)(hb:GE X b rb)(hm:behindInMarks op b=false):GE X (.Compare a [op] [b] pos) (aV f ra rb):=
 .mk fun Γ=>peW (bN1 ho (ha.to Γ) (hb.to Γ) hm) fun _ _ _=>kP hp
noncomputable def dJ(r:DE):DT:=fun σ=>(r σ).bind fun x=>(rd x.2 x.1).bind fun d=>match d with
 | .bl b=>some (b,x.2)
 | _=>none
theorem yI{r:DE}{σ σ':Sg}{b:Bool}(h:dJ r σ=some (b,σ')):∃ x,r σ=some (x,σ')/\rd σ' x=some (.bl b):=by
 obtain⟨⟨x,σ1⟩,e1,e⟩:=aD h
 obtain⟨d,e2,e⟩:=aD e
 dsimp only at e e2
 split at e
 ·cases e;exact⟨x,e1,e2⟩
 ·cases e
theorem aA0{H:Hp}{b:Bool}{v:V}(h:Vw H (.bl b) v):v=.bl b:=by
 rcases h with h | ⟨p,_,h⟩
 ·cases h;rfl
 ·exact h.elim
theorem yJ{Γ:Gm}{r:DE}{σV:St}{H:Hp}{Q:Bool->Hp->Prop}(h:dTT Γ (dJ r) σV H Q):dTE Γ r σV H (fun x H'=>∃ k,x=.bl k/\Q k H'):=by
 obtain⟨σ,ok,b,σ',e,k⟩:=h
 obtain⟨x,e1,e2⟩:=yI e
 refine⟨σ,ok,x,σ',e1,fun v H' ok' r' st _=>⟨b,aA0 (r'.vw ok' e2),k H' ok' st⟩⟩
theorem bP{op:CmpOp}{rr:R2}{f:F2}(ho:OpR X (compareOp op) rr)(hp:pA rr f)(ha:GE X a ra)(hb:GE X b rb)(hm:behindInMarks op b=false):GT X (.Compare a [op] [b] pos) (dJ (aV f ra rb)):=
 .mk fun Γ=>ptW (iD ho (ha.to Γ) (hb.to Γ) hm) fun σ H Q h=>kP hp (yJ h)
theorem aI8{e:Expr}{r:DE}(h:GE X e r)(he:∀ whole,isTrue e X.env whole=(do let v ← whole;standAt e.pos;holding [v] (truthy v)):=by intro _;rfl):GT X e (dJ r):=
 .mk fun Γ=>ptW (bZ5 (h.to Γ) he) fun _ _ _ h=>yJ h
end
theorem gB{H:Hp}{l:List D}{v:V}(h:Vw H (.tup l) v):∃ p xs,v=.ref p/\H p=some (.tup xs)/\Rps H l xs:=by
 rcases h with h | ⟨p,_,h⟩
 ·cases h with
  | tup h r=>exact⟨_,_,rfl,h,r⟩
 ·exact h.elim
theorem gK{H:Hp}{l:List D}{v:V}(h:Vw H (.lst l) v):∃ p xs,v=.ref p/\fP H p=some (true,xs)/\Rps H l xs:=by
 rcases h with h | ⟨p,e,xs,h,r⟩
 ·cases h with
  | lst h r=>exact⟨_,_,rfl,bB9 h,r⟩
 ·exact⟨p,xs,e,mV h,r⟩
theorem cR{H:Hp}{i:Int}{v:V}(h:Vw H (.int i) v):v=.int i:=by
 rcases h with h | ⟨p,_,h⟩
 ·cases h;rfl
 ·exact h.elim
theorem jN{H:Hp}{i:Str}{v:V}(h:Vw H (.str i) v):v=.str i:=by
 rcases h with h | ⟨p,_,h⟩
 ·cases h;rfl
 ·exact h.elim
theorem bK3{H:Hp}{v:V}(h:Vw H .non v):v=.non:=by
 rcases h with h | ⟨p,_,h⟩
 ·cases h;rfl
 ·exact h.elim
noncomputable def cL9:D->Option (Bool×List D)
 | .lst l=>some (true,l)
 | .tup l=>some (false,l)
 | _=>none
section
variable{X:Cx}{a b:Expr}{ra rb:DE}{pos:Pos}
variable{tA tB:DT}{kD:List Expr}
noncomputable def bQ4(t u:DT):DT:=fun σ=>(t σ).bind fun x=>if x.1=true then u x.2 else some (false,x.2)
noncomputable def dOr(t u:DT):DT:=fun σ=>(t σ).bind fun x=>if x.1=true then some (true,x.2)else u x.2
noncomputable def cE8(t:DT):DT:=fun σ=>(t σ).bind fun x=>some (!x.1,x.2)
theorem uZ(ha:GT X a tA):GW X (.BoolOp .And [a] pos) tA:=.mk fun Γ=>uI (ha.to Γ)
theorem cE9(ha:GT X a tA):GW X (.BoolOp .Or [a] pos) tA:=.mk fun Γ=>bZ6 (ha.to Γ)
theorem aI9(ha:GT X a tA)(hb:GW X (.BoolOp .And (b::kD) pos) tB):GW X (.BoolOp .And (a::b::kD) pos) (bQ4 tA tB):=.mk fun Γ=>pwW (xN (ha.to Γ) (hb.to Γ)) fun σV H Q ⟨σ,ok,c,σ',e,k⟩=>by
 obtain⟨⟨x,σ1⟩,e1,e⟩:=aD e
 refine⟨σ,ok,x,σ1,e1,fun H1 ok1 st1=>?_⟩
 dsimp only at e
 split at e
 ·rename_i hx;rw[if_pos hx];exact⟨σ1,ok1,c,σ',e,fun H2 ok2 st2=>k H2 ok2 (st1.trans st2)⟩
 ·rename_i hx;rw[if_neg hx];cases e;exact k H1 ok1 st1
theorem cP2(ha:GT X a tA)(hb:GW X (.BoolOp .Or (b::kD) pos) tB):GW X (.BoolOp .Or (a::b::kD) pos) (dOr tA tB):=.mk fun Γ=>pwW (cM9 (ha.to Γ) (hb.to Γ)) fun σV H Q ⟨σ,ok,c,σ',e,k⟩=>by
 obtain⟨⟨x,σ1⟩,e1,e⟩:=aD e
 refine⟨σ,ok,x,σ1,e1,fun H1 ok1 st1=>?_⟩
 dsimp only at e
 split at e
 ·rename_i hx;rw[if_pos hx];cases e;exact k H1 ok1 st1
 ·rename_i hx;rw[if_neg hx];exact⟨σ1,ok1,c,σ',e,fun H2 ok2 st2=>k H2 ok2 (st1.trans st2)⟩
theorem cF0(ha:GT X a tA):GT X (.UnaryOp .Not a pos) (cE8 tA):=.mk fun Γ=>ptW (bZ7 (ha.to Γ)) fun σV H Q ⟨σ,ok,c,σ',e,k⟩=>by
 obtain⟨⟨x,σ1⟩,e1,e⟩:=aD e
 cases e
 exact⟨σ,ok,x,_,e1,fun H1 ok1 st1=>k H1 ok1 st1⟩
noncomputable def aJ0(t u:DE):DE:=fun σ=>(dJ t σ).bind fun x=>if x.1=true then u x.2 else some (.val (.bl false),x.2)
theorem bK4{op}{r:DE}(h:GE X a r):GE X (.BoolOp op [a] pos) r:=.mk fun Γ=>bZ9 (h.to Γ)
theorem bK5(ha:GE X a ra)(hb:GE X (.BoolOp .And (b::kD) pos) rb):GE X (.BoolOp .And (a::b::kD) pos) (aJ0 ra rb):=.mk fun Γ=>peW (cA0 (ha.to Γ) (hb.to Γ)) fun σV H Q ⟨σ,ok,c,σ',e,k⟩=>by
 obtain⟨⟨x,σ1⟩,e1,e⟩:=aD e
 obtain⟨y,e2,e3⟩:=yI e1
 refine⟨σ,ok,y,σ1,e2,fun v H1 ok1 r1 st1 _=>⟨x,aA0 (r1.vw ok1 e3),?_⟩⟩
 dsimp only at e
 split at e
 ·rename_i hx;rw[if_pos hx];exact⟨σ1,ok1,c,σ',e,fun v2 H2 ok2 r2 st2 f2=>k v2 H2 ok2 r2 (st1.trans st2) (f2.back st1)⟩
 ·rename_i hx;rw[if_neg hx];cases e;exact k _ H1 ok1 (.bl false) st1 iH
end
noncomputable def Fz:HO->Prop
 | .lst _=>True
 | .dK _=>True
 | .dT _=>True
 | _=>False
theorem bQ5{X:Cx}{pins:List (Addr×Obj)}{σ:St}{H:Hp}{s:Shared}{p:Addr}{u:HO}(I:Inv X pins σ H s)(h:H p=some u)(hu:Fz u):∃ o,Inv X pins σ (upd H p (.frz o u)) s:=by
 have nt:∀ b xs,H b=some (.tup xs)->b≠p:=fun b xs e z=>by subst z;rw[h]at e;cases e;exact hu
 have nf:∀ b o x,H b=some (.frz o x)->b≠p:=fun b o x e z=>by subst z;rw[h]at e;cases e;exact hu
 have no:∀ b x,H b=some (.own x)->b≠p:=fun b x e z=>by subst z;rw[h]at e;cases e;exact hu
 have nb:∀ b x,H b=some (.tbl x)->b≠p:=fun b x e z=>by subst z;rw[h]at e;cases e;exact hu
 have nn:∀ b,H b=none->b≠p:=fun b e z=>by subst z;rw[h]at e;cases e
 obtain⟨o,ho⟩:∃ o,s.heap.get? p=some o:=by
  have:=I.hok p u h
  have l:=this.lt
  cases q:s.heap.get? p with
  | some o=>exact⟨o,rfl⟩
  | none=>
    cases u with
    | lst xs=>obtain⟨_,_,_,_,e⟩:=this;rw[q]at e;cases e
    | dK kvs=>obtain⟨_,_,_,_,ob,_,_,e,_⟩:=this;rw[q]at e;cases e
    | dT kvs=>obtain⟨_,_,_,_,ob,_,_,e,_⟩:=this;rw[q]at e;cases e
    | _=>exact hu.elim
 have st:∀ a x,dQ X.prog X.w H s.heap a x->dQ X.prog X.w (upd H p (.frz o u)) s.heap a x:=fun a x k=>
  k.stay (fun _ _ _ e=>e) (fun b e=>by rw[aK (no b _ e)];exact e) fun b xs e=>by rw[aK (nt b _ e)];exact e
 refine⟨o,{I with base:=?_,free:=?_,freeC:=?_,pin:=?_,hok:=?_}⟩
 ·exact⟨I.base.keep,I.base.slot,fun b ob q n hx=>by
    have:=I.base.free b ob q n hx
    rw[aK (nn b this)];exact this,I.base.there,fun b xs e=>by
    have:=I.base.tups b xs e
    rw[aK (nt b _ this)];exact this,fun b ob x e=>by
    have:=I.base.frzs b ob x e
    rw[aK (nf b _ _ this)];exact this,fun b ps e=>by
    obtain⟨m,e2⟩:=I.base.tbls b ps e
    exact⟨m,by rw[aK (nb b _ e2)];exact e2⟩⟩
 ·rw[aK (nn _ I.free)];exact I.free
 ·intro x c e;rw[aK (nn _ (I.freeC x c e))];exact I.freeC x c e
 ·intro q hq
  obtain⟨h1,h2,h3⟩:=I.pin q hq
  exact⟨h1,by rw[aK (nn _ h2)];exact h2,h3⟩
 ·intro a x e
  by_cases ha:a=p
  ·subst ha
   rw[aT]at e;cases e
   exact⟨ho,st a u (I.hok a u h)⟩
  ·rw[aK ha]at e
   exact st a x (I.hok a x e)
noncomputable def tFz(t:TE):TE:=fun σ H Q=>t σ H fun v H1=>Q v H1\/∃ p u,v=.ref p/\H1 p=some u/\Fz u/\∀ o,Q v (upd H1 p (.frz o u))
theorem cP3{X:Cx}{e:Expr}{t:TE}(h:PE X e t):PE X e (tFz t):=fun pins s σ H Q I q=>
 thn (h pins s σ H _ I q) fun u s1 ⟨v,H1,I1,r1,q1⟩=>by
  rcases q1 with q1 | ⟨p,x,e1,e2,e3,q1⟩
  ·exact⟨v,H1,I1,r1,q1⟩
  ·obtain⟨o,I2⟩:=bQ5 I1 e2 e3
   exact⟨v,_,I2,r1,q1 o⟩
theorem aJ1{H:Hp}{d:D}{p:Addr}(h:dR H d p):∃ u,H p=some u/\Fz u/\∀ o H',Ext H H'->H' p=some (.frz o u)->Rp H' d (.ref p):=by
 unfold dR at h
 split at h
 ·obtain⟨xs,h1,h2⟩:=h
  exact⟨_,h1,True.intro,fun o H' x e=>.lst e (h2.mono x)⟩
 ·obtain⟨u,ws,h1,h2,h3⟩:=h
  refine⟨u,h1,?_,fun o H' x e=>.dic e h2 (h3.mono x)⟩
  cases u with
  | dK _=>exact True.intro
  | dT _=>exact True.intro
  | _=>exact h2.elim
 ·exact h.elim
theorem aJ2{H:Hp}{p:Addr}{u:HO}{o:Obj}(h:H p=some u)(hu:Fz u):Ext H (upd H p (.frz o u)):=
 ⟨fun b xs e=>by rw[aK (fun z=>by subst z;rw[h]at e;cases e;exact hu)];exact e,fun b ob x e=>by rw[aK (fun z=>by subst z;rw[h]at e;cases e;exact hu)];exact e⟩
noncomputable def cS2(σ:Sg):Res->Option (D×Sg)
 | .val d=>some (d,σ)
 | .own d=>some (d,σ)
 | .slot i=>match σ[i]? with
   | some (some s)=>if s.m=.own then some (s.d,σ.set i (some ⟨.val,s.d⟩))else if s.m=.val then some (s.d,σ)else none
   | _=>none
noncomputable def dFz(r:DE):DE:=fun σ=>(r σ).bind fun x=>(cS2 x.2 x.1).bind fun y=>some (.val y.1,y.2)
theorem bX{α:Type}{l:List α}{i j:Nat}{x y:α}(h:(l.set i x)[j]? = some y):(j=i/\y=x/\i < l.length)\/(j≠i/\l[j]? = some y):=by
 rw[List.getElem?_set]at h
 split at h
 ·rename_i e
  split at h
  ·cases h;exact .inl ⟨e.symm,rfl,by assumption⟩
  ·cases h
 ·rename_i e;exact .inr ⟨fun z=>e z.symm,h⟩
theorem cM{X:Cx}{e:Expr}{r:DE}(h:GE X e r):GE X e (dFz r):=.mk fun Γ=>peW (cP3 (h.to Γ)) fun σV H Q ⟨σ,ok,res,σ',e,k⟩=>by
 obtain⟨⟨x,σ1⟩,e1,e⟩:=aD e
 obtain⟨⟨d,σ2⟩,e2,e⟩:=aD e
 cases e
 refine⟨σ,ok,x,σ1,e1,fun v H1 ok1 r1 st1 f1=>?_⟩
 dsimp only at e2
 cases x with
 | val d'=>cases e2;exact .inl (k v H1 ok1 r1 st1 iH)
 | own d'=>
   cases e2
   obtain⟨p,rfl,h1,h2,h3⟩:=r1
   obtain⟨u,q1,q2,q3⟩:=aJ1 h1
   have hn:H p=none:=f1 _ p rfl rfl
   refine .inr ⟨p,u,rfl,q1,q2,fun o=>?_⟩
   have x:=aJ2 (o:=o) q1 q2
   refine k _ _ ⟨fun i s e=>?_,ok1.dis,ok1.own,ok1.par,fun a ob e n=>?_,fun a e=>?_,ok1.len⟩ (q3 o _ x aT) ⟨fun a ob e n=>?_,fun a e=>?_,st1.mu,st1.nv,st1.kp,st1.fix,st1.lt⟩ iH
   ·obtain⟨w,ew,rw'⟩:=ok1.rel i s e
    refine⟨w,ew,rw'.mono x fun q ob eq m e2=>?_⟩
    rw[aK (fun z=>h2 ⟨i,s,e,m,by rw[ew,eq,z]⟩)];exact e2
   ·rw[aK (fun z=>by subst z;rw[h3]at e;cases e)];exact ok1.keep a ob e n
   ·by_cases z:a=p
    ·subst z;rw[aT]at e;cases e
    ·rw[aK z]at e;exact ok1.dom a e
   ·rw[aK (fun z=>by subst z;rw[hn]at e;cases e)];exact st1.fr a ob e n
   ·by_cases z:a=p
    ·subst z;rw[aT]at e;cases e
    ·rw[aK z]at e;exact st1.dom a e
 | slot i=>
   obtain⟨r1,s,hs⟩:=r1
   have e2':(match σ1[i]? with | some (some s)=>if s.m=.own then some (s.d,σ1.set i (some ⟨.val,s.d⟩))else if s.m=.val then some (s.d,σ1)else none | _=>none)=some (d,σ2):=e2
   rw[hs]at e2'
   dsimp only at e2'
   obtain⟨w,ew,rw'⟩:=ok1.rel i s hs
   rw[r1]at ew;cases ew
   split at e2'
   ·rename_i hm
    cases e2'
    obtain⟨m,d⟩:=s
    cases hm
    obtain⟨p,rfl,h1⟩:=(cU (s:=⟨.own,d⟩) (fun z=>nomatch z)).mp rw'
    obtain⟨u,q1,q2,q3⟩:=aJ1 h1
    refine .inr ⟨p,u,rfl,q1,q2,fun o=>?_⟩
    have x:=aJ2 (o:=o) q1 q2
    have rp:=q3 o _ x aT
    have il:i < σ1.length:=(List.getElem?_eq_some_iff.mp hs).1
    have pm:mQ σ1 σV p:=⟨i,_,hs,rfl,r1⟩
    have sub:∀ (j:Nat) t,(σ1.set i (some ⟨.val,d⟩))[j]? = some (some t)->t.m≠.val->j≠i/\σ1[j]? = some (some t):=fun j t ej hm=>by
     rcases bX ej with⟨_,z,_⟩ | z
     ·cases z;exact absurd rfl hm
     ·exact z
    have mtv:∀ t:Sl,t.m.mt=true->t.m≠.val:=fun t h z=>by rw[z]at h;cases h
    refine k _ _ ⟨fun j t ej=>?_,fun j l t t' q n ej el m m'=>?_,fun j t q ej m=>?_,fun j t q ej m=>?_,fun a ob e n=>?_,fun a e=>?_,?_⟩ rp
     ⟨fun a ob e n=>?_,fun a e=>?_,fun a ⟨j,t,ej,m,ea⟩=>?_,fun a ⟨j,t,ej,m,ea⟩=>?_,fun j t ej=>?_,fun j t ej m=>?_,fun j t ej m=>st1.lt j t (sub j t ej (by rw[m];exact fun z=>nomatch z)).2 m⟩ iH
    ·rcases bX ej with⟨z,z2,_⟩ | ⟨z,z2⟩
     ·cases z2;rw[z];exact⟨_,r1,rp⟩
     ·obtain⟨w,ew,rw2⟩:=ok1.rel j t z2
      refine⟨w,ew,rw2.mono x fun q ob eq m e2=>?_⟩
      rw[aK (fun y=>ok1.dis i j _ t p (Ne.symm z) hs z2 rfl m r1 (by rw[ew,eq,y]))];exact e2
    ·exact ok1.dis j l t t' q n (sub j t ej (mtv t m)).2 (sub l t' el m').2 m m'
    ·exact ok1.own j t q (sub j t ej (by rw[m];exact fun z=>nomatch z)).2 m
    ·exact ok1.par j t q (sub j t ej (by rw[m];exact fun z=>nomatch z)).2 m
    ·have hp:=ok1.own i _ p hs rfl r1
     rw[aK (fun z=>by subst z;rw[hp]at e;cases e)];exact ok1.keep a ob e n
    ·by_cases z:a=p
     ·subst z;rw[aT]at e;cases e
     ·rw[aK z]at e;exact ok1.dom a e
    ·rw[List.length_set];exact ok1.len
    ·by_cases z:a=p
     ·subst z
      rcases st1.mu a pm with y | y
      ·exact absurd y n
      ·rw[e]at y;cases y
     ·rw[aK z];exact st1.fr a ob e n
    ·by_cases z:a=p
     ·subst z;rw[aT]at e;cases e
     ·rw[aK z]at e;exact st1.dom a e
    ·exact st1.mu a ⟨j,t,(sub j t ej (mtv t m)).2,m,ea⟩
    ·exact st1.nv a ⟨j,t,(sub j t ej m).2,m,ea⟩
    ·obtain⟨t',et⟩:=st1.kp j t ej
     by_cases z:j=i
     ·subst z;exact⟨_,by rw[List.getElem?_set_self il]⟩
     ·exact⟨t',by rw[List.getElem?_set_ne (Ne.symm z)];exact et⟩
    ·obtain⟨t',et,h⟩:=st1.fix j t ej m
     refine⟨t',?_,h⟩
     rw[List.getElem?_set_ne (fun z=>?_)]
     ·exact et
     ·subst z
      rw[hs]at et
      cases et
      rcases m with m | m
      ·have:=h.1;rw[m]at this;cases this
      ·have:=h.1;rw[m]at this;cases this
   ·split at e2'
    ·rename_i hm
     cases e2'
     obtain⟨m,d⟩:=s
     cases hm
     exact .inl (k v H1 ok1 rw' st1 iH)
    ·cases e2'
noncomputable def aN:DA:=fun σ=>some ([],σ)
noncomputable def aC(r:DE)(rs:DA):DA:=fun σ=>(r σ).bind fun x=>(rs x.2).bind fun y=>some (x.1::y.1,y.2)
noncomputable def rds(σ:Sg):List Res->Option (List D)
 | []=>some []
 | r::rs=>(rd σ r).bind fun d=>(rds σ rs).bind fun ds=>some (d::ds)
noncomputable def vals:List Res->Option (List D)
 | []=>some []
 | .val d::rs=>(vals rs).bind fun ds=>some (d::ds)
 | _=>none
theorem nL{Γ:Gm}{H:Hp}{σ:Sg}{σV:St}(ok:StOk Γ H σ σV):∀ {rs:List Res} {vs:List V} {ds:List D},ResOks Γ H σ σV rs vs->rds σ rs=some ds->Vws H ds vs
 | _,_,_,.nil,e=>by cases e;exact .nil
 | _,_,_,.cons h t _,e=>by
   obtain⟨d,e1,e⟩:=aD e
   obtain⟨ds,e2,e⟩:=aD e
   cases e
   exact .cons (h.vw ok e1) (nL ok t e2)
theorem kR{Γ:Gm}{H:Hp}{σ:Sg}{σV:St}:∀ {rs:List Res} {vs:List V} {ds:List D},ResOks Γ H σ σV rs vs->vals rs=some ds->Rps H ds vs
 | _,_,_,.nil,e=>by cases e;exact .nil
 | .val d::_,_,_,.cons h t _,e=>by
   obtain⟨ds,e2,e⟩:=aD e
   cases e
   exact .cons h (kR t e2)
 | .own d::_,_,_,.cons h t _,e=>by cases e
 | .slot d::_,_,_,.cons h t _,e=>by cases e
section
variable{X:Cx}{e:Expr}{es:List Expr}{r:DE}{rs:DA}{pos:Pos}
theorem aE:GA X [] aN:=.mk fun Γ=>paW eI fun σV H Q ⟨σ,ok,res,σ',e,k⟩=>by
 cases e;exact k [] H ok .nil .refl (fun j d p e=>by simp at e)
theorem aB(ha:GE X e r)(hr:GA X es rs)(hs:starEach (e::es) X.env=(false,eval e X.env)::starEach es X.env:=by kernel_rfl):GA X (e::es) (aC r rs):=.mk fun Γ=>paW (bO (ha.to Γ) (hr.to Γ) hs) fun σV H Q ⟨σ,ok,res,σ',e,k⟩=>by
 obtain⟨⟨x,σ1⟩,e1,e⟩:=aD e
 obtain⟨⟨ys,σ2⟩,e2,e⟩:=aD e
 cases e
 refine⟨σ,ok,x,σ1,e1,fun v H1 ok1 r1 st1 f1=>⟨σ1,ok1,ys,_,e2,fun vs H2 ok2 r2 st2 f2=>?_⟩⟩
 refine k (v::vs) H2 ok2 (.cons (r1.step ok1 st2) r2 fun d p e3 e4 j d' e5 e6=>?_) (st1.trans st2) fun j d p e3 e4=>?_
 ·subst e3 e4
  obtain⟨q,eq,ow,_⟩:=r1
  cases eq
  obtain⟨o,ho,_⟩:=ow.obj
  have:=f2 j d' p e5 e6
  rw[ho]at this;cases this
 ·cases j with
  | zero=>simp at e3 e4;subst e3 e4;exact f1 d p rfl rfl
  | succ j=>exact st1.dom p (f2 j d p (by simpa using e3) (by simpa using e4))
noncomputable def dCB(f:FN)(ra:DA):DE:=fun σ=>(ra σ).bind fun x=>(rds x.2 x.1).bind fun ds=>(f ds).bind fun r=>some (r,x.2)
theorem cJ{rr:List V->Hp->VK->Prop}{f:FN}{ra:DA}(hp:bA0 rr f)(h:∀ Γ,PE X e (tCB rr (dTA Γ ra))):GE X e (dCB f ra):=.mk fun Γ=>peW (h Γ) fun σV H Q ⟨σ,ok,res,σ',e,k⟩=>by
 obtain⟨⟨x,σ1⟩,e1,e⟩:=aD e
 obtain⟨ds,e2,e⟩:=aD e
 obtain⟨r,e3,e⟩:=aD e
 cases e
 refine⟨σ,ok,x,_,e1,fun vs H1 ok1 r1 st1 f1=>?_⟩
 refine hp H1 ds vs Q _ (nL ok1 r1 e2) e3 fun v H' sm nw=>?_
 exact k v H' (ok1.same sm) (nw.res ok1) (st1.trans (.same sm)) (nw.frh.back st1)
noncomputable def aC8(ra:DA):DE:=fun σ=>(ra σ).bind fun x=>(vals x.1).bind fun ds=>if ds.length<=sizeLine then some (.val (.tup ds),x.2)else none
noncomputable def iI(ra:DA):DE:=fun σ=>(ra σ).bind fun x=>(vals x.1).bind fun ds=>if ds.length<=sizeLine then some (.own (.lst ds),x.2)else none
theorem nM{x1}(h:GA X es rs):GE X (.Tuple es x1 pos) (aC8 rs):=.mk fun Γ=>peW (cB2 (h.to Γ)) fun σV H Q ⟨σ,ok,res,σ',e,k⟩=>by
 obtain⟨⟨x,σ1⟩,e1,e⟩:=aD e
 obtain⟨ds,e2,e⟩:=aD e
 dsimp only at e
 split at e
 ·rename_i hl
  cases e
  refine⟨σ,ok,x,_,e1,fun vs H1 ok1 r1 st1 f1=>?_⟩
  have rp:=kR r1 e2
  refine⟨by rw[← rp.length];exact hl,fun p hp=>?_⟩
  have sm:uN H1 (upd H1 p (.tup vs)):=bV hp
  exact k _ _ (ok1.same sm) (.tup aT (rp.mono (.same sm))) (st1.trans (.same sm)) iH
 ·cases e
theorem dA(h:GA X es rs):GE X (.List es pos) (iI rs):=.mk fun Γ=>peW (bH7 (h.to Γ)) fun σV H Q ⟨σ,ok,res,σ',e,k⟩=>by
 obtain⟨⟨x,σ1⟩,e1,e⟩:=aD e
 obtain⟨ds,e2,e⟩:=aD e
 dsimp only at e
 split at e
 ·rename_i hl
  cases e
  refine⟨σ,ok,x,_,e1,fun vs H1 ok1 r1 st1 f1=>?_⟩
  have rp:=kR r1 e2
  refine⟨by rw[← rp.length];exact hl,fun p hp=>?_⟩
  have sm:uN H1 (upd H1 p (.lst vs)):=bV hp
  have nw:uY H1 (upd H1 p (.lst vs)) (.own (.lst ds)) (.ref p):=⟨p,rfl,hp,vs,aT,rp.mono (.same sm)⟩
  exact k _ _ (ok1.same sm) (nw.res ok1) (st1.trans (.same sm)) (nw.frh.back st1)
 ·cases e
end
section
variable{Γ:Gm}{H:Hp}{σ:Sg}{σV:St}{i:Nat}{s:Sl}{p:Addr}{o':HO}{d':D}
theorem StOk.ownAt(ok:StOk Γ H σ σV)(hs:σ[i]? = some (some s))(hm:s.m≠.val):∃ p,σV[i]? = some (some (.ref p))/\dR H s.d p:=by
 obtain⟨v,e,r⟩:=ok.rel i s hs
 obtain⟨p,rfl,r'⟩:=(cU hm).mp r
 exact⟨p,e,r'⟩
theorem gO{m:Md}(h:m.mt=true):m≠.val:=fun z=>by rw[z]at h;cases h
theorem dR.ext{d:D}(h:dR H d p):Ext H (upd H p o'):=by
 obtain⟨o,e,n1,n2⟩:=h.obj
 exact⟨fun b xs q=>by rw[aK (fun z=>by subst z;rw[e]at q;cases q;exact n1 _ rfl)];exact q,fun b ob x q=>by rw[aK (fun z=>by subst z;rw[e]at q;cases q;exact n2 _ _ rfl)];exact q⟩
theorem StOk.write(ok:StOk Γ H σ σV)(hs:σ[i]? = some (some s))(hm:s.m.mt=true)(hv:σV[i]? = some (some (.ref p)))(ow:dR (upd H p o') d' p) :
  StOk Γ (upd H p o') (σ.set i (some ⟨s.m,d'⟩)) σV/\Step σ σV H (σ.set i (some ⟨s.m,d'⟩)) σV (upd H p o'):=by
 obtain⟨p',e',ow0⟩:=ok.ownAt hs (gO hm)
 rw[hv]at e';cases e'
 have x:Ext H (upd H p o'):=ow0.ext
 have il:i < σ.length:=(List.getElem?_eq_some_iff.mp hs).1
 have back:∀ (j:Nat) t,(σ.set i (some ⟨s.m,d'⟩))[j]? = some (some t)->∃ t',σ[j]? = some (some t')/\t'.m=t.m:=fun j t ej=>by
  rcases bX ej with⟨z,z2,_⟩ | ⟨z,z2⟩
  ·cases z2;subst z;exact⟨s,hs,rfl⟩
  ·exact⟨t,z2,rfl⟩
 refine⟨⟨fun j t ej=>?_,fun j l t t' q n ej el m m'=>?_,fun j t q ej m=>?_,fun j t q ej m=>?_,fun a ob e n=>?_,fun a e=>?_,by rw[List.length_set];exact ok.len⟩,
  ⟨fun a ob e n=>?_,fun a e=>?_,fun a ⟨j,t,ej,m,ea⟩=>?_,fun a ⟨j,t,ej,m,ea⟩=>?_,fun j t ej=>?_,fun j t ej m=>?_,fun j t ej m=>?_⟩⟩
 ·rcases bX ej with⟨z,z2,_⟩ | ⟨z,z2⟩
  ·cases z2;subst z;exact⟨_,hv,(cU (s:=⟨s.m,d'⟩) (gO hm)).mpr ⟨p,rfl,ow⟩⟩
  ·obtain⟨w,ew,rw2⟩:=ok.rel j t z2
   refine⟨w,ew,rw2.mono x fun q ob eq m e2=>?_⟩
   rw[aK (fun y=>ok.dis i j _ t p (Ne.symm z) hs z2 hm m hv (by rw[ew,eq,y]))];exact e2
 ·obtain⟨t1,h1,m1⟩:=back j t ej
  obtain⟨t2,h2,m2⟩:=back l t' el
  exact ok.dis j l t1 t2 q n h1 h2 (by rw[m1];exact m) (by rw[m2];exact m')
 ·obtain⟨t1,h1,m1⟩:=back j t ej
  exact ok.own j t1 q h1 (m1.trans m)
 ·obtain⟨t1,h1,m1⟩:=back j t ej
  exact ok.par j t1 q h1 (m1.trans m)
 ·have:a≠p:=fun z=>by
   subst z
   cases hq:s.m with
   | own=>rw[ok.own i s a hs hq hv]at e;cases e
   | par=>exact n (ok.par i s a hs hq hv)
   | val=>rw[hq]at hm;cases hm
   | lent=>rw[hq]at hm;cases hm
  rw[aK this];exact ok.keep a ob e n
 ·by_cases z:a=p
  ·subst z;rw[aT]at e;cases e
  ·rw[aK z]at e;exact ok.dom a e
 ·rw[aK (fun z=>n ⟨i,s,hs,hm,by rw[z];exact hv⟩)];exact e
 ·by_cases z:a=p
  ·subst z;rw[aT]at e;cases e
  ·rw[aK z]at e;exact e
 ·obtain⟨t1,h1,m1⟩:=back j t ej
  exact .inl ⟨j,t1,h1,by rw[m1];exact m,ea⟩
 ·obtain⟨t1,h1,m1⟩:=back j t ej
  exact .inl ⟨j,t1,h1,by rw[m1];exact m,ea⟩
 ·by_cases z:j=i
  ·subst z;exact⟨_,by rw[List.getElem?_set_self il]⟩
  ·exact⟨t,by rw[List.getElem?_set_ne (Ne.symm z)];exact ej⟩
 ·by_cases z:j=i
  ·subst z
   rw[hs]at ej;cases ej
   exact⟨⟨s.m,d'⟩,by rw[List.getElem?_set_self il],rfl,fun q=>(by rw[q]at hm;cases hm),rfl⟩
  ·exact⟨t,by rw[List.getElem?_set_ne (Ne.symm z)];exact ej,rfl,fun _=>rfl,rfl⟩
 ·obtain⟨t1,h1,m1⟩:=back j t ej
  exact⟨t1,h1,m1.trans m⟩
end
noncomputable abbrev FM:=D->List D->Option (D×D)
noncomputable def cP4(r:V->List V->Hp->VK->Prop)(f:FM):Prop:=∀ H d p ds vs Q d' e,dR H d p->Rps H ds vs->f d ds=some (d',e)->(∀ o' v,dR (upd H p o') d' p->Rp (upd H p o') e v->Q v (upd H p o'))->r (.ref p) vs H Q
noncomputable def cS3(r:V->List V->Hp->VK->Prop)(f:FM):Prop:=∀ H d p ds vs Q d' e,dR H d p->Vws H ds vs->f d ds=some (d',e)->(∀ o' v,dR (upd H p o') d' p->Rp (upd H p o') e v->Q v (upd H p o'))->r (.ref p) vs H Q
noncomputable def bA2(f:FM)(i:Nat)(ds:List D)(σ:Sg):Option (Res×Sg):=match σ[i]? with
 | some (some s)=>if s.m.mt=true then(f s.d ds).bind fun y=>some (.val y.2,σ.set i (some ⟨s.m,y.1⟩))else none
 | _=>none
noncomputable def tyD(T:String):D->Bool
 | .lst _=>T=="list"
 | .dic _ _=>T=="dict"
 | _=>false
noncomputable def uE(T:String)(i:Nat)(σ:Sg):Bool:=match σ[i]? with
 | some (some s)=>decide (s.m≠.val)&&tyD T s.d
 | _=>false
noncomputable def jV(T:String)(i:Nat)(f:FM)(ra:DA):DE:=fun σ=>if uE T i σ=true then(ra σ).bind fun x=>(vals x.1).bind fun ds=>bA2 f i ds x.2 else none
noncomputable def qX(T:String)(i:Nat)(f:FM)(ra:DA):DE:=fun σ=>if uE T i σ=true then(ra σ).bind fun x=>(rds x.2 x.1).bind fun ds=>bA2 f i ds x.2 else none
theorem cF1{K:PySem.W.Frag}{T:String}{H:Hp}{d:D}{p:Addr}(h:dR H d p)(e:tyD T d=true):tyV K T (.ref p) H:=by
 unfold dR at h
 split at h
 ·obtain⟨xs,h1,_⟩:=h
  exact .inl ⟨by simpa[tyD]using e,xs,SqL.of h1⟩
 ·obtain⟨u,ws,h1,h2,_⟩:=h
  refine .inr (.inr (.inl ⟨by simpa[tyD]using e,?_⟩))
  cases u with
  | dK kvs=>exact .inl ⟨kvs,h1⟩
  | dT kvs=>exact .inr ⟨kvs,h1⟩
  | _=>exact h2.elim
 ·exact h.elim
theorem jH{f:FM}{i:Nat}{ds:List D}{σ σ':Sg}{res:Res}(h:bA2 f i ds σ=some (res,σ')):∃ s d' e,σ[i]? = some (some s)/\s.m.mt=true/\f s.d ds=some (d',e)/\res=.val e/\σ'=σ.set i (some ⟨s.m,d'⟩):=by
 unfold bA2 at h
 split at h
 ·rename_i s hs
  split at h
  ·rename_i hm
   obtain⟨⟨d',e⟩,h1,h2⟩:=aD h
   cases h2
   exact⟨s,d',e,hs,hm,h1,rfl,rfl⟩
  ·cases h
 ·cases h
theorem mW{T:String}{i:Nat}{σ:Sg}(h:uE T i σ=true):∃ s,σ[i]? = some (some s)/\s.m≠.val/\tyD T s.d=true:=by
 unfold uE at h
 split at h
 ·rename_i s hs
  rw[Bool.and_eq_true,decide_eq_true_eq]at h
  exact⟨s,hs,h.1,h.2⟩
 ·cases h
section
variable{X:Cx}{e:Expr}{ra:DA}{K:PySem.W.Frag}{T:String}{r:V->List V->Hp->VK->Prop}{f:FM}{i:Nat}
theorem jW(hp:cP4 r f)(h:∀ Γ,PE X e (tBM K T r (aC7 i) (dTA Γ ra))):GE X e (jV T i f ra):=.mk fun Γ=>peW (h Γ) fun σV H Q ⟨σ,ok,res,σ',e,k⟩=>by
 unfold jV at e
 split at e
 ·rename_i hn
  obtain⟨⟨x,σ1⟩,e1,e⟩:=aD e
  obtain⟨ds,e2,e⟩:=aD e
  obtain⟨s,d',y,hs,hm,e3,rfl,rfl⟩:=jH e
  obtain⟨s0,hs0,hm0,ht0⟩:=mW hn
  obtain⟨p,ep,ow⟩:=ok.ownAt hs0 hm0
  refine⟨_,ep,cF1 ow ht0,σ,ok,x,σ1,e1,fun vs H1 ok1 r1 st1 f1=>?_⟩
  obtain⟨p',ep',ow1⟩:=ok1.ownAt hs (gO hm)
  rw[ep]at ep';cases ep'
  refine hp H1 s.d p ds vs Q d' y ow1 (kR r1 e2) e3 fun o' v ow' rp=>?_
  obtain⟨ok2,st2⟩:=ok1.write hs hm ep ow'
  exact k v _ ok2 rp (st1.trans st2) iH
 ·cases e
theorem vA(hp:cS3 r f)(h:∀ Γ,PE X e (tBM K T r (aC7 i) (dTA Γ ra))):GE X e (qX T i f ra):=.mk fun Γ=>peW (h Γ) fun σV H Q ⟨σ,ok,res,σ',e,k⟩=>by
 unfold qX at e
 split at e
 ·rename_i hn
  obtain⟨⟨x,σ1⟩,e1,e⟩:=aD e
  obtain⟨ds,e2,e⟩:=aD e
  obtain⟨s,d',y,hs,hm,e3,rfl,rfl⟩:=jH e
  obtain⟨s0,hs0,hm0,ht0⟩:=mW hn
  obtain⟨p,ep,ow⟩:=ok.ownAt hs0 hm0
  refine⟨_,ep,cF1 ow ht0,σ,ok,x,σ1,e1,fun vs H1 ok1 r1 st1 f1=>?_⟩
  obtain⟨p',ep',ow1⟩:=ok1.ownAt hs (gO hm)
  rw[ep]at ep';cases ep'
  refine hp H1 s.d p ds vs Q d' y ow1 (nL ok1 r1 e2) e3 fun o' v ow' rp=>?_
  obtain⟨ok2,st2⟩:=ok1.write hs hm ep ow'
  exact k v _ ok2 rp (st1.trans st2) iH
 ·cases e
end
inductive Out where
 | nx (σ:Sg) | rt (r:Res) (σ:Sg) | bk (σ:Sg) | ct (σ:Sg) | ex (c:Str) (f:Option (Str×D)) (σ:Sg)
noncomputable abbrev DS:=Sg->Option Out
structure Ex where
 ok:Hp->Str->Option (Str×D)->Value->Option Addr->Prop
 to:St->XK
noncomputable def Ex.no:Ex:=⟨fun _ _ _ _ _=>False,fun _ _ _ _=>False⟩
noncomputable def aJ3(Γ:Gm)(E:Ex)(σ:Sg)(σV:St)(H:Hp)(o:Out)(D:Ends):Prop:=match o with
 | .nx σ'=>∀ σV' H',StOk Γ H' σ' σV'->Step σ σV H σ' σV' H'->D.nx σV' H'
 | .rt r σ'=>∀ v σV' H',StOk Γ H' σ' σV'->iW Γ H' σ' σV' r v->Step σ σV H σ' σV' H'->D.rt v H'
 | .bk σ'=>∀ σV' H',StOk Γ H' σ' σV'->Step σ σV H σ' σV' H'->D.bk σV' H'
 | .ct σ'=>∀ σV' H',StOk Γ H' σ' σV'->Step σ σV H σ' σV' H'->D.ct σV' H'
 | .ex c f σ'=>∀ x d σV' H',StOk Γ H' σ' σV'->E.ok H' c f x d->Step σ σV H σ' σV' H'->E.to σV' x d H'
noncomputable def dTS(Γ:Gm)(E:Ex)(r:DS):TS:=fun D σV H=>∃ σ,StOk Γ H σ σV/\∃ o,r σ=some o/\aJ3 Γ E σ σV H o D
structure GS(E:Ex)(X:Cx)(s:Stmt)(r:DS):Prop where
 to:∀ Γ,PS X s (dTS Γ E r)
structure GSs(E:Ex)(X:Cx)(s:List Stmt)(r:DS):Prop where
 to:∀ Γ,PSs X s (dTS Γ E r)
theorem aJ3.after{Γ:Gm}{E:Ex}{σ σ1:Sg}{σV σV1:St}{H H1:Hp}{o:Out}{D:Ends}(h:aJ3 Γ E σ σV H o D)(st:Step σ σV H σ1 σV1 H1):aJ3 Γ E σ1 σV1 H1 o D:=by
 cases o with
 | nx σ'=>exact fun σV' H' ok s=>h σV' H' ok (st.trans s)
 | rt r σ'=>exact fun v σV' H' ok q s=>h v σV' H' ok q (st.trans s)
 | bk σ'=>exact fun σV' H' ok s=>h σV' H' ok (st.trans s)
 | ct σ'=>exact fun σV' H' ok s=>h σV' H' ok (st.trans s)
 | ex c f σ'=>exact fun x d σV' H' ok q s=>h x d σV' H' ok q (st.trans s)
noncomputable def eL:DS:=fun σ=>some (.nx σ)
noncomputable def bN(a b:DS):DS:=fun σ=>(a σ).bind fun o=>match o with
 | .nx σ1=>b σ1
 | o=>some o
noncomputable def iQ(r:DE):DS:=fun σ=>(r σ).bind fun x=>some (.nx x.2)
noncomputable def gU(r:DE):DS:=fun σ=>(r σ).bind fun x=>some (.rt x.1 x.2)
noncomputable def cP5:DS:=fun σ=>some (.rt (.val .non) σ)
noncomputable def jO(c:DT)(a b:DS):DS:=fun σ=>(c σ).bind fun x=>if x.1=true then a x.2 else b x.2
section
variable{X:Cx}{E:Ex}{st:Stmt}{kD:List Stmt}{a b:DS}{pos:Pos}{e:Expr}{r:DE}
theorem cV:GSs E X [] eL:=.mk fun Γ=>cE7 nB fun D σV H ⟨σ,ok,o,e,k⟩=>by
 cases e;exact k σV H ok .refl
theorem aP(h:GS E X st a):GSs E X [st] a:=.mk fun Γ=>iS (h.to Γ)
theorem bD0{Γ:Gm}{E:Ex}{D:Ends}{σV:St}{H:Hp}(h:dTS Γ E (bN a b) D σV H):cL2 (dTS Γ E a) (dTS Γ E b) D σV H:=by
 obtain⟨σ,ok,o,e,k⟩:=h
 obtain⟨o1,e1,e⟩:=aD e
 refine⟨σ,ok,o1,e1,?_⟩
 cases o1 with
 | nx σ1=>exact fun σV1 H1 ok1 st1=>⟨σ1,ok1,o,e,k.after st1⟩
 | rt r σ'=>cases e;exact k
 | bk σ'=>cases e;exact k
 | ct σ'=>cases e;exact k
 | ex c f σ'=>cases e;exact k
theorem aG(h1:GS E X st a)(h2:GSs E X kD b):GSs E X (st::kD) (bN a b):=.mk fun Γ=>cE7 (fR (h1.to Γ) (h2.to Γ)) fun _ _ _=>bD0
theorem iJ(he:GE X e r)(hs:swapsWith e none pos.line X.env=pure false:=by rfl):GS E X (.Expr e pos) (iQ r):=.mk fun Γ=>psW (qI (he.to Γ) hs) fun D σV H ⟨σ,ok,o,e,k⟩=>by
 obtain⟨⟨x,σ1⟩,e1,e⟩:=aD e
 cases e
 exact⟨σ,ok,x,σ1,e1,fun v H1 ok1 r1 st1 _=>k σV H1 ok1 st1⟩
theorem cA(he:GE X e r):GS E X (.Return (some e) pos) (gU r):=.mk fun Γ=>psW (bH4 (he.to Γ)) fun D σV H ⟨σ,ok,o,e,k⟩=>by
 obtain⟨⟨x,σ1⟩,e1,e⟩:=aD e
 cases e
 exact⟨σ,ok,x,σ1,e1,fun v H1 ok1 r1 st1 _=>k v σV H1 ok1 r1 st1⟩
theorem gP{c:Expr}{l m:List Stmt}{t:DT}(hc:GT X c t)(ha:GSs E X l a)(hb:GSs E X m b):GS E X (.If c l m pos) (jO t a b):=.mk fun Γ=>psW (zL (hc.to Γ) (ha.to Γ) (hb.to Γ)) fun D σV H ⟨σ,ok,o,e,k⟩=>by
 obtain⟨⟨x,σ1⟩,e1,e⟩:=aD e
 refine⟨σ,ok,x,σ1,e1,fun H1 ok1 st1=>?_⟩
 dsimp only at e
 split at e
 ·rename_i hx;rw[if_pos hx];exact⟨σ1,ok1,o,e,k.after st1⟩
 ·rename_i hx;rw[if_neg hx];exact⟨σ1,ok1,o,e,k.after st1⟩
end
noncomputable def eX(σ:Sg)(i:Nat):Bool:=match σ[i]? with
 | some none=>true
 | some (some s)=>decide (s.m=.val)||decide (s.m=.own)
 | none=>false
theorem kS{σ:Sg}{i:Nat}(h:eX σ i=true):i < σ.length:=by
 unfold eX at h
 split at h
 ·rename_i e;exact(List.getElem?_eq_some_iff.mp e).1
 ·rename_i e;exact(List.getElem?_eq_some_iff.mp e).1
 ·cases h
theorem bD1{σ:Sg}{i:Nat}{s:Sl}(h:eX σ i=true)(hs:σ[i]? = some (some s)):s.m=.val\/s.m=.own:=by
 unfold eX at h
 rw[hs]at h
 simpa using h
section
variable{Γ:Gm}{H H0:Hp}{σ σ0:Sg}{σV σV0:St}{i:Nat}{d:D}{v:V}
theorem StOk.put(ok:StOk Γ H σ σV)(hp:eX σ i=true)(r:Rp H d v):StOk Γ H (σ.set i (some ⟨.val,d⟩)) (σV.set i (some v)) where
 rel:=fun j t ej=>by
  rcases bX ej with⟨z,z2,_⟩ | ⟨z,z2⟩
  ·cases z2;subst z
   exact⟨v,by rw[List.getElem?_set_self (by rw[← ok.len];exact kS hp)],r⟩
  ·obtain⟨w,ew,rw2⟩:=ok.rel j t z2
   exact⟨w,by rw[List.getElem?_set_ne (Ne.symm z)];exact ew,rw2⟩
 dis:=fun j l t t' q n ej el m m' eq eq'=>by
  rcases bX ej with⟨z,z2,_⟩ | ⟨z,z2⟩
  ·cases z2;cases m
  ·rcases bX el with⟨y,y2,_⟩ | ⟨y,y2⟩
   ·cases y2;exact m' rfl
   ·rw[List.getElem?_set_ne (Ne.symm z)]at eq
    rw[List.getElem?_set_ne (Ne.symm y)]at eq'
    exact ok.dis j l t t' q n z2 y2 m m' eq eq'
 own:=fun j t q ej m eq=>by
  rcases bX ej with⟨z,z2,_⟩ | ⟨z,z2⟩
  ·cases z2;cases m
  ·rw[List.getElem?_set_ne (Ne.symm z)]at eq;exact ok.own j t q z2 m eq
 par:=fun j t q ej m eq=>by
  rcases bX ej with⟨z,z2,_⟩ | ⟨z,z2⟩
  ·cases z2;cases m
  ·rw[List.getElem?_set_ne (Ne.symm z)]at eq;exact ok.par j t q z2 m eq
 keep:=ok.keep
 dom:=ok.dom
 len:=by rw[List.length_set,List.length_set];exact ok.len
theorem Step.put(st:Step σ0 σV0 H0 σ σV H)(hp:eX σ i=true)(m:Md)(hm:m=.val\/m=.own/\∀ p,v=.ref p->H0 p=none):Step σ0 σV0 H0 (σ.set i (some ⟨m,d⟩)) (σV.set i (some v)) H:=by
 have ne_lent:m≠.lent:=by rcases hm with rfl | ⟨rfl,_⟩<;>exact fun z=>nomatch z
 have il:=kS hp
 have fixi:∀ t,σ[i]? = some (some t)->t.m≠.par/\t.m≠.lent:=fun t e=>by
  rcases bD1 hp e with z | z<;>(rw[z];exact⟨(fun y=>by cases y),(fun y=>by cases y)⟩)
 refine⟨st.fr,st.dom,fun a ⟨j,t,ej,mt,ea⟩=>?_,fun a ⟨j,t,ej,nv,ea⟩=>?_,fun j t ej=>?_,fun j t ej mm=>?_,fun j t ej mm=>?_⟩
 ·rcases bX ej with⟨z,z2,_⟩ | ⟨z,z2⟩
  ·cases z2
   subst z
   rcases hm with rfl | ⟨_,hf⟩
   ·cases mt
   ·have:=List.getElem?_eq_some_iff.mp ea
    obtain⟨hl,he⟩:=this
    rw[List.getElem_set_self]at he
    exact .inr (hf a (Option.some.inj he))
  ·rw[List.getElem?_set_ne (Ne.symm z)]at ea
   exact st.mu a ⟨j,t,z2,mt,ea⟩
 ·rcases bX ej with⟨z,z2,_⟩ | ⟨z,z2⟩
  ·cases z2
   subst z
   rcases hm with rfl | ⟨_,hf⟩
   ·exact absurd rfl nv
   ·have:=List.getElem?_eq_some_iff.mp ea
    obtain⟨hl,he⟩:=this
    rw[List.getElem_set_self]at he
    exact .inr (hf a (Option.some.inj he))
  ·rw[List.getElem?_set_ne (Ne.symm z)]at ea
   exact st.nv a ⟨j,t,z2,nv,ea⟩
 ·obtain⟨t',et⟩:=st.kp j t ej
  by_cases z:j=i
  ·subst z;exact⟨_,by rw[List.getElem?_set_self il]⟩
  ·exact⟨t',by rw[List.getElem?_set_ne (Ne.symm z)];exact et⟩
 ·obtain⟨t',et,h1,h2,h3⟩:=st.fix j t ej mm
  have z:j≠i:=fun z=>by
   subst z
   obtain⟨n1,n2⟩:=fixi t' et
   rcases mm with m1 | m1
   ·exact n1 (h1.trans m1)
   ·exact n2 (h1.trans m1)
  exact⟨t',by rw[List.getElem?_set_ne (Ne.symm z)];exact et,h1,h2,by rw[List.getElem?_set_ne (Ne.symm z)];exact h3⟩
 ·rcases bX ej with⟨z,z2,_⟩ | ⟨z,z2⟩
  ·cases z2;exact absurd mm ne_lent
  ·exact st.lt j t z2 mm
theorem StOk.putOwn{p:Addr}(ok:StOk Γ H σ σV)(hp:eX σ i=true)(ow:dR H d p)(hn:¬ aZ9 σ σV p)(h0:Γ.H₀ p=none):StOk Γ H (σ.set i (some ⟨.own,d⟩)) (σV.set i (some (.ref p))) where
 rel:=fun j t ej=>by
  rcases bX ej with⟨z,z2,_⟩ | ⟨z,z2⟩
  ·cases z2;subst z
   exact⟨.ref p,by rw[List.getElem?_set_self (by rw[← ok.len];exact kS hp)],p,rfl,ow⟩
  ·obtain⟨w,ew,rw2⟩:=ok.rel j t z2
   exact⟨w,by rw[List.getElem?_set_ne (Ne.symm z)];exact ew,rw2⟩
 dis:=fun j l t t' q n ej el m m' eq eq'=>by
  have il:i < σV.length:=by rw[← ok.len];exact kS hp
  rcases bX ej with⟨z,z2,_⟩ | ⟨z,z2⟩
  ·subst z
   rw[List.getElem?_set_self il]at eq
   have eq:=Option.some.inj (Option.some.inj eq)
   cases eq
   rcases bX el with⟨y,y2,_⟩ | ⟨y,y2⟩
   ·exact n y.symm
   ·rw[List.getElem?_set_ne (Ne.symm y)]at eq'
    exact hn ⟨l,t',y2,m',eq'⟩
  ·rw[List.getElem?_set_ne (Ne.symm z)]at eq
   rcases bX el with⟨y,y2,_⟩ | ⟨y,y2⟩
   ·subst y
    rw[List.getElem?_set_self il]at eq'
    have eq':=Option.some.inj (Option.some.inj eq')
    cases eq'
    exact hn ⟨j,t,z2,gO m,eq⟩
   ·rw[List.getElem?_set_ne (Ne.symm y)]at eq'
    exact ok.dis j l t t' q n z2 y2 m m' eq eq'
 own:=fun j t q ej m eq=>by
  rcases bX ej with⟨z,z2,_⟩ | ⟨z,z2⟩
  ·subst z
   rw[List.getElem?_set_self (by rw[← ok.len];exact kS hp)]at eq
   have eq:=Option.some.inj (Option.some.inj eq)
   cases eq;exact h0
  ·rw[List.getElem?_set_ne (Ne.symm z)]at eq;exact ok.own j t q z2 m eq
 par:=fun j t q ej m eq=>by
  rcases bX ej with⟨z,z2,_⟩ | ⟨z,z2⟩
  ·cases z2;cases m
  ·rw[List.getElem?_set_ne (Ne.symm z)]at eq;exact ok.par j t q z2 m eq
 keep:=ok.keep
 dom:=ok.dom
 len:=by rw[List.length_set,List.length_set];exact ok.len
end
noncomputable def cM0(i:Nat)(r:Res)(σ:Sg):Option Sg:=match r with
 | .val d=>if eX σ i=true then some (σ.set i (some ⟨.val,d⟩))else none
 | .own d=>if eX σ i=true then some (σ.set i (some ⟨.own,d⟩))else none
 | .slot _=>none
noncomputable def cC(i:Nat)(r:DE):DS:=fun σ=>(r σ).bind fun x=>(cM0 i x.1 x.2).bind fun σ1=>some (.nx σ1)
theorem yK{Γ:Gm}{E:Ex}{i:Nat}{r:DE}{D:Ends}{σV:St}{H:Hp}(h:dTS Γ E (cC i r) D σV H):dTE Γ r σV H (fun x H1=>D.nx (σV.set i (some x)) H1):=by
 obtain⟨σ,ok,o,e,k⟩:=h
 obtain⟨⟨x,σ1⟩,e1,e⟩:=aD e
 obtain⟨σ2,e2,e⟩:=aD e
 cases e
 refine⟨σ,ok,x,σ1,e1,fun v H1 ok1 r1 st1 f1=>?_⟩
 cases x with
 | val d=>
   have e2':(if eX σ1 i=true then some (σ1.set i (some ⟨.val,d⟩))else none)=some σ2:=e2
   split at e2'
   ·rename_i hp;cases e2';exact k _ _ (ok1.put hp r1) (st1.put hp .val (.inl rfl))
   ·cases e2'
 | own d=>
   have e2':(if eX σ1 i=true then some (σ1.set i (some ⟨.own,d⟩))else none)=some σ2:=e2
   split at e2'
   ·rename_i hp
    cases e2'
    obtain⟨p,rfl,q1,q2,q3⟩:=r1
    exact k _ _ (ok1.putOwn hp q1 q2 q3) (st1.put hp .own (.inr ⟨rfl,fun p e=>f1 _ p rfl e⟩))
   ·cases e2'
 | slot j=>cases e2
theorem cF2{X:Cx}{E:Ex}{i:Nat}{st:Stmt}{r:DE}(h:∀ Γ,PS X st (bH5 (dTE Γ r) (qJ i))):GS E X st (cC i r):=.mk fun Γ=>psW (h Γ) fun _ _ _ h=>yK h
noncomputable def pM(x:Str):List D:=x.cps.toList.map fun c=>.str ⟨#[c]⟩
theorem sQ{H:Hp}(x:Str):Rps H (pM x) (fE x):=by
 unfold pM fE
 induction x.cps.toList with
 | nil=>exact .nil
 | cons a r ih=>exact .cons (.str _) ih
noncomputable abbrev DG:=D->Sg->Option Sg
noncomputable abbrev DGs:=List D->Sg->Option Sg
noncomputable def bD2(own:List Nat)(g:TG)(gd:DG):Prop:=∀ Γ H σ0 σV0 H0 σ σV d v σ' Q,StOk Γ H σ σV->Step σ0 σV0 H0 σ σV H->Rp H d v->gd d σ=some σ' ->
 (∀ σV',StOk Γ H σ' σV'->Step σ0 σV0 H0 σ' σV' H->σV'.length=σV.length->(∀ i,i∉own->σV'[i]? = σV[i]? /\ σ'[i]? = σ[i]?)->Q σV' H)->g v σV H Q
noncomputable def bD3(own:List Nat)(g:TGs)(gd:DGs):Prop:=∀ Γ H σ0 σV0 H0 σ σV ds vs σ' Q,StOk Γ H σ σV->Step σ0 σV0 H0 σ σV H->Rps H ds vs->gd ds σ=some σ' ->
 (∀ σV',StOk Γ H σ' σV'->Step σ0 σV0 H0 σ' σV' H->σV'.length=σV.length->(∀ i,i∉own->σV'[i]? = σV[i]? /\ σ'[i]? = σ[i]?)->Q σV' H)->g vs σV H Q
noncomputable def dgN(i:Nat):DG:=fun d σ=>if eX σ i=true then some (σ.set i (some ⟨.val,d⟩))else none
noncomputable def gX:DGs:=fun ds σ=>if ds.isEmpty then some σ else none
noncomputable def bS(g:DG)(gs:DGs):DGs:=fun ds σ=>match ds with
 | d::r=>(g d σ).bind fun σ1=>gs r σ1
 | []=>none
noncomputable def iK(n:Nat)(gs:DGs):DG:=fun d σ=>match d with
 | .tup l=>if l.length=n then gs l σ else none
 | .str z=>if z.length=n then gs (pM z) σ else none
 | _=>none
theorem aW{own:List Nat}{i:Nat}(h:i∈own):bD2 own (qJ i) (dgN i):=by
 intro Γ H σ0 σV0 H0 σ σV d v σ' Q ok st r e k
 unfold dgN at e
 split at e
 ·rename_i hp
  cases e
  refine k _ (ok.put hp r) (st.put hp .val (.inl rfl)) (by simp) fun j hj=>?_
  have:i≠j:=fun z=>hj (by rw[← z];exact h)
  exact⟨List.getElem?_set_ne this,List.getElem?_set_ne this⟩
 ·cases e
theorem eY{own:List Nat}:bD3 own cL4 gX:=by
 intro Γ H σ0 σV0 H0 σ σV ds vs σ' Q ok st r e k
 unfold gX at e
 cases r with
 | nil=>cases e;exact⟨rfl,k _ ok st rfl fun _ _=>⟨rfl,rfl⟩⟩
 | cons _ _=>cases e
theorem bG{own:List Nat}{g:TG}{gd:DG}{gs:TGs}{gds:DGs}(h1:bD2 own g gd)(h2:bD3 own gs gds):bD3 own (aD4 g gs) (bS gd gds):=by
 intro Γ H σ0 σV0 H0 σ σV ds vs σ' Q ok st r e k
 cases r with
 | nil=>cases e
 | cons a t=>
   obtain⟨σ1,e1,e⟩:=aD e
   refine⟨_,_,rfl,h1 Γ H σ0 σV0 H0 σ σV _ _ σ1 _ ok st a e1 fun σV1 ok1 st1 l1 f1=>?_⟩
   refine h2 Γ H σ0 σV0 H0 σ1 σV1 _ _ σ' _ ok1 st1 t e fun σV2 ok2 st2 l2 f2=>?_
   exact k σV2 ok2 st2 (l2.trans l1) fun i hi=>⟨(f2 i hi).1.trans (f1 i hi).1,(f2 i hi).2.trans (f1 i hi).2⟩
theorem gY{own:List Nat}{K:PySem.W.Frag}{n:Nat}{gs:TGs}{gds:DGs}(h:bD3 own gs gds):bD2 own (uR K n gs) (iK n gds):=by
 intro Γ H σ0 σV0 H0 σ σV d v σ' Q ok st r e k
 cases d with
 | tup l=>
   have e':(if l.length=n then gds l σ else none)=some σ':=e
   split at e'
   ·rename_i hl
    obtain⟨p,xs,rfl,h1,h2⟩:=gB (.inl r)
    exact⟨xs,dI h1,by rw[← h2.length];exact hl,h Γ H σ0 σV0 H0 σ σV l xs σ' Q ok st h2 e' k⟩
   ·cases e'
 | str z=>
   have e':(if z.length=n then gds (pM z) σ else none)=some σ':=e
   split at e'
   ·rename_i hl
    cases r
    exact⟨hl,h Γ H σ0 σV0 H0 σ σV _ _ σ' Q ok st (sQ z) e' k⟩
   ·cases e'
 | _=>cases e
noncomputable def cM1(g:DG)(r:DE):DS:=fun σ=>(r σ).bind fun x=>match x.1 with
 | .val d=>(g d x.2).bind fun σ1=>some (.nx σ1)
 | _=>none
theorem cF3{X:Cx}{E:Ex}{own:List Nat}{st:Stmt}{r:DE}{g:TG}{gd:DG}(hg:bD2 own g gd)(h:∀ Γ,PS X st (bH5 (dTE Γ r) g)):GS E X st (cM1 gd r):=.mk fun Γ=>psW (h Γ) fun D σV H ⟨σ,ok,o,e,k⟩=>by
 obtain⟨⟨x,σ1⟩,e1,e⟩:=aD e
 refine⟨σ,ok,x,σ1,e1,fun v H1 ok1 r1 st1 f1=>?_⟩
 cases x with
 | val d=>
   obtain⟨σ2,e2,e⟩:=aD e
   cases e
   exact hg Γ H1 σ σV H σ1 σV d v σ2 _ ok1 st1 r1 e2 fun σV2 ok2 st2 _ _=>k σV2 H1 ok2 st2
 | own d=>cases e
 | slot d=>cases e
noncomputable def cM2(i j:Nat)(ra:DA):DS:=fun σ=>(ra σ).bind fun x=>(vals x.1).bind fun ds=>match ds with
 | [d,e]=>if eX x.2 i=true/\eX x.2 j=true/\i≠j then some (.nx ((x.2.set i (some ⟨.val,d⟩)).set j (some ⟨.val,e⟩)))else none
 | _=>none
theorem cF4{X:Cx}{E:Ex}{i j:Nat}{st:Stmt}{ra:DA}(h:∀ Γ,PS X st (cN2 i j (dTA Γ ra))):GS E X st (cM2 i j ra):=.mk fun Γ=>psW (h Γ) fun D σV H ⟨σ,ok,o,e,k⟩=>by
 obtain⟨⟨x,σ1⟩,e1,e⟩:=aD e
 obtain⟨ds,e2,e⟩:=aD e
 refine⟨σ,ok,x,σ1,e1,fun vs H1 ok1 r1 st1 f1=>?_⟩
 have rp:=kR r1 e2
 dsimp only at e
 split at e
 ·split at e
  ·rename_i d y hp
   cases e
   cases rp with
   | cons a t=>cases t with
     | cons b t=>cases t with
       | nil=>
         refine⟨_,_,rfl,?_⟩
         have ok2:=ok1.put hp.1 a
         have hp2:eX (σ1.set i (some ⟨.val,d⟩)) j=true:=by
          unfold eX
          rw[List.getElem?_set_ne hp.2.2]
          exact hp.2.1
         exact k _ _ (ok2.put hp2 b) ((st1.put hp.1 .val (.inl rfl)).put hp2 .val (.inl rfl))
  ·cases e
 ·cases e
noncomputable def lend(i:Nat)(σ:Sg):Sg:=match σ[i]? with
 | some (some s)=>if s.m.mt=true then σ.set i (some ⟨.lent,s.d⟩)else σ
 | _=>σ
noncomputable def unl(i:Nat)(σ0 σ:Sg):Sg:=match σ0[i]?,σ[i]? with
 | some (some s0),some (some s)=>if s0.m.mt=true then σ.set i (some ⟨s0.m,s.d⟩)else σ
 | _,_=>σ
noncomputable def lendO(l:Option Nat)(σ:Sg):Sg:=match l with
 | some i=>lend i σ
 | none=>σ
noncomputable def pN(l:Option Nat)(σ0 σ:Sg):Sg:=match l with
 | some i=>unl i σ0 σ
 | none=>σ
section
variable{Γ:Gm}{H H1 H2:Hp}{σ σ1 σ2:Sg}{σV σV2:St}{i:Nat}{s:Sl}
theorem qY(hs:σ[i]? = some (some s))(hm:s.m.mt=true):lend i σ=σ.set i (some ⟨.lent,s.d⟩):=by
 unfold lend;rw[hs];simp only[hm,if_true]
theorem vB(h:∀ s,σ[i]? = some (some s)->s.m.mt=false):lend i σ=σ:=by
 unfold lend
 split
 ·rename_i s hs;rw[if_neg (by rw[h s hs];exact Bool.false_ne_true)]
 ·rfl
theorem StOk.lend(ok:StOk Γ H σ σV):StOk Γ H (lend i σ) σV:=by
 by_cases hx:∃ s,σ[i]? = some (some s)/\s.m.mt=true
 ·obtain⟨s,hs,hm⟩:=hx
  rw[qY hs hm]
  obtain⟨p,ep,ow⟩:=ok.ownAt hs (gO hm)
  have back:∀ (j:Nat) t,(σ.set i (some ⟨.lent,s.d⟩))[j]? = some (some t)->(j=i/\t=⟨.lent,s.d⟩)\/(j≠i/\σ[j]? = some (some t)):=fun j t ej=>by
   rcases bX ej with⟨z,z2,_⟩ | z
   ·cases z2;exact .inl ⟨z,rfl⟩
   ·exact .inr z
  refine⟨fun j t ej=>?_,fun j l t t' q n ej el m m' eq eq'=>?_,fun j t q ej m eq=>?_,fun j t q ej m eq=>?_,ok.keep,ok.dom,by rw[List.length_set];exact ok.len⟩
  ·rcases back j t ej with⟨rfl,rfl⟩ | ⟨_,z⟩
   ·exact⟨_,ep,p,rfl,ow⟩
   ·exact ok.rel j t z
  ·rcases back j t ej with⟨rfl,rfl⟩ | ⟨_,z⟩
   ·cases m
   ·rcases back l t' el with⟨rfl,rfl⟩ | ⟨_,y⟩
    ·exact ok.dis j l t s q n z hs m (gO hm) eq eq'
    ·exact ok.dis j l t t' q n z y m m' eq eq'
  ·rcases back j t ej with⟨rfl,rfl⟩ | ⟨_,z⟩
   ·cases m
   ·exact ok.own j t q z m eq
  ·rcases back j t ej with⟨rfl,rfl⟩ | ⟨_,z⟩
   ·cases m
   ·exact ok.par j t q z m eq
 ·rw[vB fun s hs=>by
   cases e:s.m.mt with
   | false=>rfl
   | true=>exact absurd ⟨s,hs,e⟩ hx]
  exact ok
theorem cF5(ok:StOk Γ H1 σ1 σV)(ok2:StOk Γ H2 σ2 σV2)(st:Step (lend i σ1) σV H1 σ2 σV2 H2):StOk Γ H2 (unl i σ1 σ2) σV2/\Step σ1 σV H1 (unl i σ1 σ2) σV2 H2:=by
 by_cases hx:∃ s,σ1[i]? = some (some s)/\s.m.mt=true
 ·obtain⟨s,hs,hm⟩:=hx
  have il:i < σ1.length:=(List.getElem?_eq_some_iff.mp hs).1
  rw[qY hs hm]at st
  have hsl:(σ1.set i (some ⟨.lent,s.d⟩))[i]? = some (some ⟨.lent,s.d⟩):=by rw[List.getElem?_set_self il]
  obtain⟨s2,h2,m2,d2,v2⟩:=st.fix i _ hsl (.inr rfl)
  have m2':s2.m=.lent:=m2
  have il2:i < σ2.length:=(List.getElem?_eq_some_iff.mp h2).1
  have eu:unl i σ1 σ2=σ2.set i (some ⟨s.m,s2.d⟩):=by unfold unl;rw[hs,h2];simp only[hm,if_true]
  rw[eu]
  obtain⟨p,ep,ow⟩:=ok.ownAt hs (gO hm)
  have ep2:σV2[i]? = some (some (.ref p)):=v2.trans ep
  obtain⟨p',e',ow2⟩:=ok2.ownAt h2 (by rw[m2'];exact fun z=>nomatch z)
  rw[ep2]at e';cases e'
  have lold:∀ (j:Nat) t,j≠i->σ2[j]? = some (some t)->t.m=.lent->σV2[j]? ≠ some (some (.ref p)):=fun j t hj ej mj e=>by
   obtain⟨t1,h1,mt1⟩:=st.lt j t ej mj
   rw[List.getElem?_set_ne (Ne.symm hj)]at h1
   have hf:(σ1.set i (some ⟨.lent,s.d⟩))[j]? = some (some t1):=by rw[List.getElem?_set_ne (Ne.symm hj)];exact h1
   obtain⟨_,_,_,_,vj⟩:=st.fix j t1 hf (.inr mt1)
   rw[vj]at e
   exact ok.dis i j s t1 p (Ne.symm hj) hs h1 hm (by rw[mt1];exact fun z=>nomatch z) ep e
  have others:∀ (j:Nat) t,j≠i->σ2[j]? = some (some t)->t.m≠.val->σV2[j]? ≠ some (some (.ref p)):=fun j t hj ej mj e=>by
   by_cases hl:t.m=.lent
   ·exact lold j t hj ej hl e
   ·have hmt:t.m.mt=true:=by
     cases q:t.m with
     | val=>exact absurd q mj
     | own=>rfl
     | par=>rfl
     | lent=>exact absurd q hl
    exact ok2.dis j i t s2 p hj ej h2 hmt (by rw[m2'];exact fun z=>nomatch z) e ep2
  have back:∀ (j:Nat) t,(σ2.set i (some ⟨s.m,s2.d⟩))[j]? = some (some t)->(j=i/\t=⟨s.m,s2.d⟩)\/(j≠i/\σ2[j]? = some (some t)):=fun j t ej=>by
   rcases bX ej with⟨z,z2,_⟩ | z
   ·cases z2;exact .inl ⟨z,rfl⟩
   ·exact .inr z
  have sub:∀ a,mQ (σ1.set i (some ⟨.lent,s.d⟩)) σV a->mQ σ1 σV a:=fun a ⟨j,t,ej,m,ea⟩=>by
   rcases bX ej with⟨z,z2,_⟩ | ⟨z,z2⟩
   ·cases z2;cases m
   ·exact⟨j,t,z2,m,ea⟩
  have subN:∀ a,aZ9 (σ1.set i (some ⟨.lent,s.d⟩)) σV a->aZ9 σ1 σV a:=fun a ⟨j,t,ej,m,ea⟩=>by
   rcases bX ej with⟨z,z2,_⟩ | ⟨z,z2⟩
   ·subst z;exact⟨j,s,hs,gO hm,ea⟩
   ·exact⟨j,t,z2,m,ea⟩
  constructor
  ·refine⟨fun j t ej=>?_,fun j l t t' q n ej el m m' eq eq'=>?_,fun j t q ej m eq=>?_,fun j t q ej m eq=>?_,ok2.keep,ok2.dom,by rw[List.length_set];exact ok2.len⟩
   ·rcases back j t ej with⟨rfl,rfl⟩ | ⟨_,z⟩
    ·exact⟨_,ep2,(cU (s:=⟨s.m,s2.d⟩) (gO hm)).mpr ⟨p,rfl,ow2⟩⟩
    ·exact ok2.rel j t z
   ·rcases back j t ej with⟨rfl,rfl⟩ | ⟨zn,z⟩
    ·rw[ep2]at eq
     have eq:=Option.some.inj (Option.some.inj eq)
     cases eq
     rcases back l t' el with⟨rfl,rfl⟩ | ⟨yn,y⟩
     ·exact n rfl
     ·exact others l t' yn y m' eq'
    ·rcases back l t' el with⟨rfl,rfl⟩ | ⟨yn,y⟩
     ·rw[ep2]at eq'
      have eq':=Option.some.inj (Option.some.inj eq')
      cases eq'
      exact others j t zn z (gO m) eq
     ·exact ok2.dis j l t t' q n z y m m' eq eq'
   ·rcases back j t ej with⟨rfl,rfl⟩ | ⟨_,z⟩
    ·rw[ep2]at eq
     have eq:=Option.some.inj (Option.some.inj eq)
     cases eq
     exact ok.own j s p hs m ep
    ·exact ok2.own j t q z m eq
   ·rcases back j t ej with⟨rfl,rfl⟩ | ⟨_,z⟩
    ·rw[ep2]at eq
     have eq:=Option.some.inj (Option.some.inj eq)
     cases eq
     exact ok.par j s p hs m ep
    ·exact ok2.par j t q z m eq
  ·refine⟨fun a o e n=>st.fr a o e fun z=>n (sub a z),st.dom,fun a ⟨j,t,ej,m,ea⟩=>?_,fun a ⟨j,t,ej,m,ea⟩=>?_,fun j t ej=>?_,fun j t ej m=>?_,fun j t ej m=>?_⟩
   ·rcases back j t ej with⟨rfl,rfl⟩ | ⟨_,z⟩
    ·rw[ep2]at ea
     have ea:=Option.some.inj (Option.some.inj ea)
     cases ea
     exact .inl ⟨j,s,hs,hm,ep⟩
    ·rcases st.mu a ⟨j,t,z,m,ea⟩with y | y
     ·exact .inl (sub a y)
     ·exact .inr y
   ·rcases back j t ej with⟨rfl,rfl⟩ | ⟨_,z⟩
    ·rw[ep2]at ea
     have ea:=Option.some.inj (Option.some.inj ea)
     cases ea
     exact .inl ⟨j,s,hs,gO hm,ep⟩
    ·rcases st.nv a ⟨j,t,z,m,ea⟩with y | y
     ·exact .inl (subN a y)
     ·exact .inr y
   ·by_cases z:j=i
    ·subst z;exact⟨_,by rw[List.getElem?_set_self il2]⟩
    ·obtain⟨t',et⟩:=st.kp j t (by rw[List.getElem?_set_ne (Ne.symm z)];exact ej)
     exact⟨t',by rw[List.getElem?_set_ne (Ne.symm z)];exact et⟩
   ·by_cases z:j=i
    ·subst z
     rw[hs]at ej;cases ej
     refine⟨⟨s.m,s2.d⟩,by rw[List.getElem?_set_self il2],rfl,fun q=>?_,v2⟩
     rw[q]at hm;cases hm
    ·obtain⟨t',et,h⟩:=st.fix j t (by rw[List.getElem?_set_ne (Ne.symm z)];exact ej) m
     exact⟨t',by rw[List.getElem?_set_ne (Ne.symm z)];exact et,h⟩
   ·rcases back j t ej with⟨rfl,rfl⟩ | ⟨zn,z⟩
    ·have m':s.m=.lent:=m
     rw[m']at hm;cases hm
    ·obtain⟨t1,h1,m1⟩:=st.lt j t z m
     rw[List.getElem?_set_ne (Ne.symm zn)]at h1
     exact⟨t1,h1,m1⟩
 ·have hno:∀ s,σ1[i]? = some (some s)->s.m.mt=false:=fun s hs=>by
   cases e:s.m.mt with
   | false=>rfl
   | true=>exact absurd ⟨s,hs,e⟩ hx
  rw[vB hno]at st
  have eu:unl i σ1 σ2=σ2:=by
   unfold unl
   split
   ·rename_i s0 s' h0 h';rw[if_neg (by rw[hno s0 h0];exact Bool.false_ne_true)]
   ·rfl
  rw[eu]
  exact⟨ok2,st⟩
theorem StOk.lendO{l:Option Nat}(ok:StOk Γ H σ σV):StOk Γ H (lendO l σ) σV:=by
 cases l with
 | none=>exact ok
 | some i=>exact ok.lend
theorem qZ{l:Option Nat}(ok:StOk Γ H1 σ1 σV)(ok2:StOk Γ H2 σ2 σV2)(st:Step (lendO l σ1) σV H1 σ2 σV2 H2):StOk Γ H2 (pN l σ1 σ2) σV2/\Step σ1 σV H1 (pN l σ1 σ2) σV2 H2:=by
 cases l with
 | none=>exact⟨ok2,st⟩
 | some i=>exact cF5 ok ok2 st
theorem bQ6{l:Option Nat}{r:Res}{v:V}(st:Step (lendO l σ1) σV H1 σ2 σV2 H2)(h:iW Γ H2 σ2 σV2 r v):iW Γ H2 (pN l σ1 σ2) σV2 r v:=by
 cases l with
 | none=>exact h
 | some i=>
   show iW Γ H2 (unl i σ1 σ2) σV2 r v
   have st':Step (lend i σ1) σV H1 σ2 σV2 H2:=st
   unfold unl
   split
   ·rename_i s0 s' h0 h'
    split
    ·rename_i hm
     cases r with
     | val d=>exact h
     | own d=>
       obtain⟨p,e1,e2,e3,e4⟩:=h
       refine⟨p,e1,e2,fun⟨j,t,ej,m,ea⟩=>e3 ?_,e4⟩
       rcases bX ej with⟨z,z2,_⟩ | ⟨z,z2⟩
       ·subst z
        rw[qY h0 hm]at st'
        obtain⟨t2,q1,q2,_⟩:=st'.fix j ⟨.lent,s0.d⟩ (by rw[List.getElem?_set_self (List.getElem?_eq_some_iff.mp h0).1]) (.inr rfl)
        exact⟨j,t2,q1,by rw[q2];exact fun z=>(by cases z),ea⟩
       ·exact⟨j,t,z2,m,ea⟩
     | slot j=>
       obtain⟨e1,t,e2⟩:=h
       refine⟨e1,?_⟩
       by_cases z:j=i
       ·subst z;exact⟨_,by rw[List.getElem?_set_self (List.getElem?_eq_some_iff.mp h').1]⟩
       ·exact⟨t,by rw[List.getElem?_set_ne (Ne.symm z)];exact e2⟩
    ·exact h
   ·exact h
end
structure ItD(J:It)(items:List D)(P:Hp->Prop):Prop where
 go:∀ H i d,P H->items[i]? = some d->J.go i H
 yld:∀ H i d y H',P H->items[i]? = some d->J.yld i H y H'->uN H H'/\Rp H' d y
 stop:∀ H,P H->J.stop items.length H
theorem sR{J:It}{xs:List V}{P:Hp->Prop}{items:List D}(w:ItIs J xs P):ItD J items (fun H=>P H/\Rps H items xs) where
 go:=fun H i d ⟨h,r⟩ e=>by
  obtain⟨x,ex,_⟩:=r.get e
  exact w.go H i x h ex
 yld:=fun H i d y H' ⟨h,r⟩ e q=>by
  obtain⟨x,ex,rx⟩:=r.get e
  obtain⟨rfl,rfl⟩:=w.yld H i x y H' h ex q
  exact⟨.refl _,rx⟩
 stop:=fun H ⟨h,r⟩=>by
  refine w.stop H _ h ?_
  have:=r.length
  rw[List.getElem?_eq_none_iff]
  omega
noncomputable abbrev DI:=Sg->Option (List D×Option Nat×Sg)
noncomputable def dTI(Γ:Gm)(ri:DI):TI:=fun σV H R=>∃ σ,StOk Γ H σ σV/\∃ items l σ1,ri σ=some (items,l,σ1)/\∀ J H1 P,StOk Γ H1 σ1 σV->Step σ σV H σ1 σV H1->ItD J items P ->
 (∀ σ2 σV2 H2,Step (lendO l σ1) σV H1 σ2 σV2 H2->P H2)->R J H1
structure GI(X:Cx)(tg iter:Expr)(ri:DI):Prop where
 to:∀ Γ,PI X tg iter (dTI Γ ri)
theorem piW{X:Cx}{tg e:Expr}{t t':TI}(h:PI X tg e t)(w:∀ σ H Q,t' σ H Q->t σ H Q):PI X tg e t':=fun pins s σ H Q I q=>h pins s σ H Q I (w σ H Q q)
noncomputable def sS:D->Option (List D)
 | .lst l=>some l
 | .tup l=>some l
 | .str x=>some (pM x)
 | _=>none
noncomputable def dIt(r:DE):DI:=fun σ=>(r σ).bind fun x=>(rd x.2 x.1).bind fun d=>(sS d).bind fun l=>some (l,(match x.1 with | .slot i=>some i | _=>none),x.2)
theorem fW{H H1:Hp}{p:Addr}{o:HO}(h:H p=some o)(h1:H1 p=some o):fP H1 p=fP H p:=by unfold fP;rw[h,h1]
theorem nN{Γ:Gm}{H1:Hp}{σ2:Sg}{σV:St}{x:Res}{v:V}{d:D}{items:List D}(ok1:StOk Γ H1 σ2 σV)(r1:iW Γ H1 σ2 σV x v)(e2:rd σ2 x=some d)(e3:sS d=some items)(vw:Vw H1 d v) :
  ∀ p b xs,v=.ref p->fP H1 p=some (b,xs)->Rps H1 items xs->∀ σ3 σV3 H3,Step (lendO (match x with | .slot i=>some i | _=>none) σ2) σV H1 σ3 σV3 H3->fP H3 p=some (b,xs)/\Rps H3 items xs:=by
 intro p b xs ev hq hr σ3 σV3 H3 st3
 have ext:Ext H1 H3:=st3.ext (Γ:=Γ) ok1.lendO
 refine⟨?_,hr.mono ext⟩
 cases x with
 | val d'=>
   cases e2
   subst ev
   cases d with
   | tup l'=>obtain⟨_,_,e,h1,_⟩:=gB vw;cases e;rw[fW h1 (ext.tup _ _ h1)];exact hq
   | lst l'=>
     cases r1 with
     | lst h1 _=>rw[fW h1 (ext.frz _ _ _ h1)];exact hq
   | dic ks vs=>cases e3
   | str z=>cases r1
   | _=>cases e3
 | own d'=>
   obtain⟨q,e4,ow,nn,_⟩:=r1
   rw[ev]at e4;cases e4
   obtain⟨o,ho,_⟩:=ow.obj
   rw[fW ho (st3.fr p o ho (fun z=>nn z.nv))];exact hq
 | slot i=>
   obtain⟨r1,s,hs⟩:=r1
   have ok1':StOk Γ H1 σ2 σV:=ok1
   by_cases hm:s.m=.val
   ·obtain⟨w,ew,rw'⟩:=ok1'.rel i s hs
    rw[r1]at ew;cases ew
    subst ev
    obtain⟨m,dd⟩:=s
    cases hm
    have e2':some dd=some d:=by
     have:rd σ2 (.slot i)=some dd:=by show(match σ2[i]? with | some (some s)=>some s.d | _=>none)=_;rw[hs]
     rw[← this];exact e2
    cases e2'
    have rp:Rp H1 d (.ref p):=rw'
    cases d with
    | tup l'=>obtain⟨_,_,e,h1,_⟩:=gB (.inl rp);cases e;rw[fW h1 (ext.tup _ _ h1)];exact hq
    | lst l'=>
      cases rp with
      | lst h1 _=>rw[fW h1 (ext.frz _ _ _ h1)];exact hq
    | dic ks vs=>cases e3
    | str z=>cases rp
    | _=>cases e3
   ·obtain⟨q,eq,ow⟩:=ok1'.ownAt hs hm
    rw[r1]at eq
    have eq:=Option.some.inj (Option.some.inj eq)
    rw[ev]at eq;cases eq
    obtain⟨o,ho,_⟩:=ow.obj
    have nm:¬ mQ (lend i σ2) σV p:=by
     rintro⟨j,t,ej,m,ea⟩
     by_cases hmt:s.m.mt=true
     ·rw[qY hs hmt]at ej
      rcases bX ej with⟨_,z2,_⟩ | ⟨z,z2⟩
      ·cases z2;cases m
      ·exact ok1'.dis j i t s p z z2 hs m hm ea (by rw[r1,ev])
     ·rw[vB (fun s' hs'=>by rw[hs]at hs';cases hs';exact Bool.eq_false_iff.mpr hmt)]at ej
      by_cases z:j=i
      ·subst z;rw[hs]at ej;cases ej;exact hmt m
      ·exact ok1'.dis j i t s p z ej hs m hm ea (by rw[r1,ev])
    rw[fW ho (st3.fr p o ho nm)];exact hq
theorem dB{X:Cx}{tg e:Expr}{r:DE}(K:PySem.W.Frag)(hK:X.K=K)(h:GE X e r):GI X tg e (dIt r):=.mk fun Γ=>piW (aI2 K hK (h.to Γ)) fun σV H R ⟨σ,ok,items,l,σ1,e,k⟩=>by
 obtain⟨⟨x,σ2⟩,e1,e⟩:=aD e
 obtain⟨d,e2,e⟩:=aD e
 obtain⟨its,e3,e⟩:=aD e
 cases e
 refine⟨σ,ok,x,_,e1,fun v H1 ok1 r1 st1 f1=>?_⟩
 have vw:=r1.vw ok1 e2
 have stay:=nN ok1 r1 e2 e3 vw
 cases d with
 | lst l'=>
   cases e3
   obtain⟨p,xs,rfl,hq,hr⟩:=gK vw
   refine .inl ⟨xs,hq,k _ H1 _ ok1 st1 (sR (sL (xs:=xs))) fun σ3 σV3 H3 st3=>?_⟩
   obtain⟨h1,h2⟩:=stay p true xs rfl hq hr σ3 σV3 H3 st3
   exact⟨fD h1,h2⟩
 | tup l'=>
   cases e3
   obtain⟨p,xs,rfl,hq,hr⟩:=gB vw
   refine .inr ⟨xs,dI hq,k _ H1 _ ok1 st1 (sR (bC1 (xs:=xs))) fun σ3 σV3 H3 st3=>?_⟩
   obtain⟨h1,h2⟩:=stay p false xs rfl (dI hq) hr σ3 σV3 H3 st3
   exact⟨eK h1,h2⟩
 | str z=>
   cases e3
   obtain rfl:=jN vw
   exact k _ H1 (fun H=>True/\Rps H (pM z) (fE z)) ok1 st1 (sR bC2) fun σ3 σV3 H3 st3=>⟨True.intro,sQ z⟩
 | _=>cases e3
noncomputable def nO(lo:Int)(n:Nat):List D:=(List.range n).map fun(i:Nat)=>D.int (lo+(i:Int))
theorem aJ4{H:Hp}(lo:Int)(n:Nat):Rps H (nO lo n) (bO6 lo n):=by
 unfold nO bO6
 induction List.range n with
 | nil=>exact .nil
 | cons a r ih=>exact .cons (.int _) ih
noncomputable def yL(ra:DA):DI:=fun σ=>(ra σ).bind fun x=>(rds x.2 x.1).bind fun ds=>match ds with
 | [.int j]=>if -(2 ^ 62)<=j/\j < 2 ^ 62 then some (nO 0 j.toNat,none,x.2)else none
 | [.int i,.int j]=>if(-(2 ^ 62)<=i/\i < 2 ^ 62) /\ -(2 ^ 62)<=j/\j < 2 ^ 62 then some (nO i (j-i).toNat,none,x.2)else none
 | _=>none
theorem nP{X:Cx}{tg e:Expr}{ra:DA}(h:∀ Γ,PI X tg e (bM7 (dTA Γ ra)))(h1:∀ σ rs σ',ra σ=some (rs,σ')->rs.length=1):GI X tg e (yL ra):=.mk fun Γ=>piW (h Γ) fun σV H R ⟨σ,ok,items,l,σ1,e,k⟩=>by
 obtain⟨⟨x,σ2⟩,e1,e⟩:=aD e
 obtain⟨ds,e2,e⟩:=aD e
 refine⟨σ,ok,x,_,e1,fun vs H1 ok1 r1 st1 f1=>?_⟩
 have vw:=nL ok1 r1 e2
 have hl:=h1 _ _ _ e1
 dsimp only at e
 split at e
 ·split at e
  ·rename_i hj
   cases e
   cases vw with
   | cons a t=>
     cases t
     obtain rfl:=cR a
     exact⟨_,rfl,hj.1,hj.2,k _ H1 (fun H=>True/\Rps H _ _) ok1 st1 (sR kL) fun σ3 σV3 H3 st3=>⟨True.intro,aJ4 _ _⟩⟩
  ·cases e
 ·exfalso
  cases vw with
  | cons a t=>cases t with
    | cons b t=>
      cases r1 with
      | cons _ q _=>cases q with
        | cons _ q _=>simp at hl
 ·cases e
theorem bQ7{X:Cx}{tg e:Expr}{ra:DA}(h:∀ Γ,PI X tg e (bM8 (dTA Γ ra)))(h1:∀ σ rs σ',ra σ=some (rs,σ')->rs.length=2):GI X tg e (yL ra):=.mk fun Γ=>piW (h Γ) fun σV H R ⟨σ,ok,items,l,σ1,e,k⟩=>by
 obtain⟨⟨x,σ2⟩,e1,e⟩:=aD e
 obtain⟨ds,e2,e⟩:=aD e
 refine⟨σ,ok,x,_,e1,fun vs H1 ok1 r1 st1 f1=>?_⟩
 have vw:=nL ok1 r1 e2
 have hl:=h1 _ _ _ e1
 dsimp only at e
 split at e
 ·exfalso
  cases vw with
  | cons a t=>
    cases t
    cases r1 with
    | cons _ q _=>cases q;simp at hl
 ·split at e
  ·rename_i hj
   cases e
   cases vw with
   | cons a t=>cases t with
     | cons b t=>
       cases t
       obtain rfl:=cR a
       obtain rfl:=cR b
       exact⟨_,_,rfl,⟨hj.1.1,hj.1.2,hj.2.1,hj.2.2⟩,k _ H1 (fun H=>True/\Rps H _ _) ok1 st1 (sR kL) fun σ3 σV3 H3 st3=>⟨True.intro,aJ4 _ _⟩⟩
  ·cases e
 ·cases e
theorem bA3{r:DE}:∀ σ rs σ',aC r aN σ=some (rs,σ')->rs.length=1:=fun σ rs σ' e=>by
 obtain⟨x,_,e⟩:=aD e
 cases e;rfl
theorem cU8{r r':DE}:∀ σ rs σ',aC r (aC r' aN) σ=some (rs,σ')->rs.length=2:=fun σ rs σ' e=>by
 obtain⟨x,_,e⟩:=aD e
 obtain⟨y,h,e⟩:=aD e
 cases e
 have:=bA3 _ _ _ h
 simp[this]
noncomputable def aJ5(g:DG)(b:DS):List D->Sg->Option Out
 | [],σ=>some (.nx σ)
 | d::r,σ=>(g d σ).bind fun σ1=>(b σ1).bind fun o=>match o with
   | .nx σ2=>aJ5 g b r σ2
   | .ct σ2=>aJ5 g b r σ2
   | .bk σ2=>some (.nx σ2)
   | .rt x σ2=>some (.rt x σ2)
   | .ex c f σ2=>some (.ex c f σ2)
noncomputable def pO(l:Option Nat)(σ0:Sg):Out->Out
 | .nx σ=>.nx (pN l σ0 σ)
 | .rt r σ=>.rt r (pN l σ0 σ)
 | .bk σ=>.bk (pN l σ0 σ)
 | .ct σ=>.ct (pN l σ0 σ)
 | .ex c f σ=>.ex c f (pN l σ0 σ)
noncomputable def rT(ri:DI)(g:DG)(b:DS):DS:=fun σ=>(ri σ).bind fun x=>(aJ5 g b x.1 (lendO x.2.1 x.2.2)).bind fun o=>some (pO x.2.1 x.2.2 o)
theorem bD4{Γ:Gm}{E:Ex}{own:List Nat}{ri:DI}{g:TG}{gd:DG}{b:DS}(hg:bD2 own g gd){D:Ends}{σV:St}{H:Hp}(h:dTS Γ E (rT ri gd b) D σV H):cL5 (dTI Γ ri) g (dTS Γ E b) D σV H:=by
 obtain⟨σ,ok,o,e,k⟩:=h
 obtain⟨⟨items,l,σ1⟩,e1,e⟩:=aD e
 obtain⟨o1,e2,e⟩:=aD e
 cases e
 refine⟨σ,ok,items,l,σ1,e1,fun J H1 P ok1 st1 itd stay=>?_⟩
 dsimp only at e2
 -- the end that is wanted of the walk
 have endw:∀ σ2 σV2 H2,StOk Γ H2 σ2 σV2->Step (lendO l σ1) σV H1 σ2 σV2 H2->∀ o2,o2=o1->(∀ σ',o2=.nx σ'->∀ σV' H',StOk Γ H' σ' σV'->Step (lendO l σ1) σV H1 σ' σV' H'->D.nx σV' H'):=by
  intro σ2 σV2 H2 ok2 st2 o2 ho σ' ho' σV' H' ok' st'
  subst ho ho'
  obtain⟨q1,q2⟩:=qZ ok1 ok' st'
  exact k σV' H' q1 (st1.trans q2)
 refine⟨fun i m σV2 H2=>m=items.length-i/\i<=items.length/\∃ σ2,aJ5 gd b (items.drop i) σ2=some o1/\StOk Γ H2 σ2 σV2/\Step (lendO l σ1) σV H1 σ2 σV2 H2,⟨items.length,by simp,Nat.zero_le _,lendO l σ1,by simpa using e2,ok1.lendO,.refl⟩,?_⟩
 rintro i m σV2 H2 ⟨rfl,hi,σ2,ef,ok2,st2⟩
 have hP:=stay σ2 σV2 H2 st2
 by_cases hlt:i < items.length
 ·have ei:items[i]? = some items[i]:=List.getElem?_eq_getElem hlt
  refine .inr ⟨itd.go H2 i _ hP ei,fun σV3 H3=>∃ m',m' < items.length-i/\m'=items.length-(i+1)/\i+1<=items.length/\∃ σ3,aJ5 gd b (items.drop (i+1)) σ3=some o1/\StOk Γ H3 σ3 σV3/\Step (lendO l σ1) σV H1 σ3 σV3 H3,fun σ' H' q=>q,fun y H3 hy=>?_⟩
  obtain⟨sm,ry⟩:=itd.yld H2 i _ y H3 hP ei hy
  rw[List.drop_eq_getElem_cons hlt]at ef
  obtain⟨σ3,eg,ef⟩:=aD ef
  obtain⟨ob,eb,ef⟩:=aD ef
  refine hg Γ H3 _ _ _ σ2 σV2 _ y σ3 _ (ok2.same sm) (st2.trans (.same sm)) ry eg fun σV3 ok3 st3 _ _=>?_
  refine⟨σ3,ok3,ob,eb,?_⟩
  cases ob with
  | nx σ4=>exact fun σV4 H4 ok4 st4=>⟨_,by omega,rfl,hlt,σ4,ef,ok4,st3.trans st4⟩
  | ct σ4=>exact fun σV4 H4 ok4 st4=>⟨_,by omega,rfl,hlt,σ4,ef,ok4,st3.trans st4⟩
  | bk σ4=>
    cases ef
    exact fun σV4 H4 ok4 st4=>endw σ4 σV4 H4 ok4 (st3.trans st4) _ rfl σ4 rfl σV4 H4 ok4 (st3.trans st4)
  | rt x σ4=>
    cases ef
    intro v σV4 H4 ok4 r4 st4
    obtain⟨q1,q2⟩:=qZ ok1 ok4 (st3.trans st4)
    exact k v σV4 H4 q1 (bQ6 (st3.trans st4) r4) (st1.trans q2)
  | ex c f σ4=>
    cases ef
    intro v d σV4 H4 ok4 r4 st4
    obtain⟨q1,q2⟩:=qZ ok1 ok4 (st3.trans st4)
    exact k v d σV4 H4 q1 r4 (st1.trans q2)
 ·have e0:i=items.length:=by omega
  subst e0
  rw[List.drop_length]at ef
  cases ef
  exact .inl ⟨itd.stop H2 hP,endw σ2 σV2 H2 ok2 st2 _ rfl σ2 rfl σV2 H2 ok2 st2⟩
theorem kU{X:Cx}{E:Ex}{own:List Nat}{st:Stmt}{ri:DI}{g:TG}{gd:DG}{b:DS}(hg:bD2 own g gd)(h:∀ Γ,PS X st (cL5 (dTI Γ ri) g (dTS Γ E b))):GS E X st (rT ri gd b):=.mk fun Γ=>psW (h Γ) fun _ _ _=>bD4 hg
theorem aJ6:∃ n:Nat,1000000<=n:=⟨_,Nat.le_refl _⟩
noncomputable def bX2:Nat:=Classical.choose aJ6
theorem bQ8:1000000<=bX2:=Classical.choose_spec aJ6
noncomputable def mD(c:DT)(b:DS):Nat->Sg->Option Out
 | 0,_=>none
 | n+1,σ=>(c σ).bind fun x=>if x.1=true then(b x.2).bind fun o=>match o with
   | .nx σ2=>mD c b n σ2
   | .ct σ2=>mD c b n σ2
   | .bk σ2=>some (.nx σ2)
   | .rt r σ2=>some (.rt r σ2)
   | .ex c f σ2=>some (.ex c f σ2)else some (.nx x.2)
noncomputable def pP(c:DT)(b:DS):DS:=fun σ=>mD c b bX2 σ
theorem aA1{Γ:Gm}{E:Ex}{c:DT}{b:DS}{D:Ends}{σV:St}{H:Hp}(h:dTS Γ E (pP c b) D σV H):aD5 (dTT Γ c) (dTS Γ E b) D σV H:=by
 obtain⟨σ,ok,o,e,k⟩:=h
 refine⟨fun m σV2 H2=>∃ σ2,mD c b m σ2=some o/\StOk Γ H2 σ2 σV2/\Step σ σV H σ2 σV2 H2,⟨bX2,σ,e,ok,.refl⟩,?_⟩
 rintro m σV2 H2 ⟨σ2,ew,ok2,st2⟩
 cases m with
 | zero=>cases ew
 | succ n=>
   obtain⟨⟨t,σ3⟩,e1,ew⟩:=aD ew
   refine⟨σ2,ok2,t,σ3,e1,fun H3 ok3 st3=>?_⟩
   dsimp only at ew
   split at ew
   ·rename_i ht
    rw[if_pos ht]
    obtain⟨ob,eb,ew⟩:=aD ew
    refine⟨fun σV4 H4=>∃ m',m' < n+1/\∃ σ4,mD c b m' σ4=some o/\StOk Γ H4 σ4 σV4/\Step σ σV H σ4 σV4 H4,fun _ _ q=>q,σ3,ok3,ob,eb,?_⟩
    cases ob with
    | nx σ4=>exact fun σV4 H4 ok4 st4=>⟨n,Nat.lt_succ_self n,σ4,ew,ok4,(st2.trans st3).trans st4⟩
    | ct σ4=>exact fun σV4 H4 ok4 st4=>⟨n,Nat.lt_succ_self n,σ4,ew,ok4,(st2.trans st3).trans st4⟩
    | bk σ4=>cases ew;exact fun σV4 H4 ok4 st4=>k σV4 H4 ok4 ((st2.trans st3).trans st4)
    | rt x σ4=>cases ew;exact fun v σV4 H4 ok4 r4 st4=>k v σV4 H4 ok4 r4 ((st2.trans st3).trans st4)
    | ex c f σ4=>cases ew;exact fun v d σV4 H4 ok4 r4 st4=>k v d σV4 H4 ok4 r4 ((st2.trans st3).trans st4)
   ·rename_i ht
    rw[if_neg ht]
    cases ew
    exact k σV2 H3 ok3 (st2.trans st3)
theorem yM{X:Cx}{E:Ex}{st:Stmt}{c:DT}{b:DS}(h:∀ Γ,PS X st (aD5 (dTT Γ c) (dTS Γ E b))):GS E X st (pP c b):=.mk fun Γ=>psW (h Γ) fun _ _ _=>aA1
noncomputable def bY(ow:List Nat)(σ:Sg):Sg:=ow.foldl (fun σ i=>σ.set i none) σ
noncomputable def jX(ow:List Nat)(σ τ:Sg):Sg:=ow.foldl (fun τ i=>τ.set i (σ[i]?.getD none)) τ
theorem gC{α:Type}:∀ (ow:List Nat) (σ:List (Option α)),(ow.foldl (fun σ i=>σ.set i none) σ).length=σ.length
 | [],_=>rfl
 | i::r,σ=>(gC r (σ.set i none)).trans (by simp)
theorem fG{α:Type}:∀ (ow:List Nat) (σ:List (Option α)) (j:Nat),j∉ow->(ow.foldl (fun σ i=>σ.set i none) σ)[j]? = σ[j]?
 | [],_,_,_=>rfl
 | i::r,σ,j,h=>by
   have h1:i≠j:=fun z=>h (by rw[z];exact List.mem_cons_self)
   have h2:j∉r:=fun z=>h (List.mem_cons_of_mem _ z)
   show(r.foldl _ (σ.set i none))[j]? = _
   rw[fG r _ j h2,List.getElem?_set_ne h1]
theorem cD{α:Type}:∀ (ow:List Nat) (σ:List (Option α)) (j:Nat) (x:α),(ow.foldl (fun σ i=>σ.set i none) σ)[j]? = some (some x)->j∉ow/\σ[j]? = some (some x)
 | [],_,_,_,h=>⟨by simp,h⟩
 | i::r,σ,j,x,h=>by
   obtain⟨h1,h2⟩:=cD r (σ.set i none) j x h
   rcases bX h2 with⟨_,z,_⟩ | ⟨z,z2⟩
   ·cases z
   ·exact⟨by simp[z,h1],z2⟩
theorem mE:∀ (ow:List Nat) (σ τ:Sg),(jX ow σ τ).length=τ.length
 | [],_,_=>rfl
 | i::r,σ,τ=>(mE r σ (τ.set i (σ[i]?.getD none))).trans (by simp)
theorem iX:∀ (ow:List Nat) (σ τ:Sg) (j:Nat),j∉ow->(jX ow σ τ)[j]? = τ[j]?
 | [],_,_,_,_=>rfl
 | i::r,σ,τ,j,h=>by
   have h1:i≠j:=fun z=>h (by rw[z];exact List.mem_cons_self)
   have h2:j∉r:=fun z=>h (List.mem_cons_of_mem _ z)
   show(jX r σ (τ.set i (σ[i]?.getD none)))[j]? = _
   rw[iX r σ _ j h2,List.getElem?_set_ne h1]
theorem mX:∀ (ow:List Nat) (σ τ:Sg) (j:Nat),j∈ow->σ.length=τ.length->(jX ow σ τ)[j]? = σ[j]?
 | [],_,_,_,h,_=>by simp at h
 | i::r,σ,τ,j,h,hl=>by
   show(jX r σ (τ.set i (σ[i]?.getD none)))[j]? = _
   by_cases hr:j∈r
   ·exact mX r σ _ j hr (by simp[hl])
   ·rw[iX r σ _ j hr]
    have:j=i:=by rcases List.mem_cons.mp h with z | z;exact z;exact absurd z hr
    subst this
    by_cases hj:j < τ.length
    ·rw[List.getElem?_set_self hj,List.getElem?_eq_getElem (by omega:j < σ.length)];rfl
    ·rw[List.getElem?_eq_none_iff.mpr (by simp;omega),List.getElem?_eq_none_iff.mpr (by omega)]
section
variable{Γ:Gm}{H H1 H2:Hp}{σ σ1 τ:Sg}{σV σV2 σV3:St}{ow:List Nat}
theorem StOk.blank(ok:StOk Γ H τ σV2)(hl:σV3.length=σV2.length)(hv:∀ j,j∉ow->σV3[j]? = σV2[j]?):StOk Γ H (bY ow τ) σV3 where
 rel:=fun j t ej=>by
  obtain⟨h1,h2⟩:=cD ow τ j t ej
  rw[hv j h1];exact ok.rel j t h2
 dis:=fun j l t t' q n ej el m m' eq eq'=>by
  obtain⟨h1,h2⟩:=cD ow τ j t ej
  obtain⟨h3,h4⟩:=cD ow τ l t' el
  rw[hv j h1]at eq;rw[hv l h3]at eq'
  exact ok.dis j l t t' q n h2 h4 m m' eq eq'
 own:=fun j t q ej m eq=>by
  obtain⟨h1,h2⟩:=cD ow τ j t ej
  rw[hv j h1]at eq;exact ok.own j t q h2 m eq
 par:=fun j t q ej m eq=>by
  obtain⟨h1,h2⟩:=cD ow τ j t ej
  rw[hv j h1]at eq;exact ok.par j t q h2 m eq
 keep:=ok.keep
 dom:=ok.dom
 len:=by rw[bY,gC,hl];exact ok.len
theorem Step.blank{σb:Sg}(hb:∀ (j:Nat) t,σb[j]? = some (some t)->j∉ow)(st:Step σb σV H1 τ σV2 H2)(hv:∀ j,j∉ow->σV3[j]? = σV2[j]?):Step σb σV H1 (bY ow τ) σV3 H2 where
 fr:=st.fr
 dom:=st.dom
 mu:=fun a ⟨j,t,ej,m,ea⟩=>by
  obtain⟨h1,h2⟩:=cD ow τ j t ej
  rw[hv j h1]at ea;exact st.mu a ⟨j,t,h2,m,ea⟩
 nv:=fun a ⟨j,t,ej,m,ea⟩=>by
  obtain⟨h1,h2⟩:=cD ow τ j t ej
  rw[hv j h1]at ea;exact st.nv a ⟨j,t,h2,m,ea⟩
 kp:=fun j t ej=>by
  obtain⟨t',et⟩:=st.kp j t ej
  exact⟨t',by rw[bY,fG ow τ j (hb j t ej)];exact et⟩
 fix:=fun j t ej m=>by
  obtain⟨t',et,h1,h2,h3⟩:=st.fix j t ej m
  exact⟨t',by rw[bY,fG ow τ j (hb j t ej)];exact et,h1,h2,by rw[hv j (hb j t ej)];exact h3⟩
 lt:=fun j t ej m=>by
  obtain⟨h1,h2⟩:=cD ow τ j t ej
  exact st.lt j t h2 m
theorem bQ9(ok1:StOk Γ H1 σ1 σV)(ok:StOk Γ H τ σV2)(hv:∀ j,j∉ow->σV2[j]? = σV[j]?)(hl:σV2.length=σV.length)(st:Step (bY ow σ1) σV2 H1 τ σV2 H) :
  StOk Γ H (jX ow σ1 τ) σV/\Step σ1 σV H1 (jX ow σ1 τ) σV H:=by
 have lens:σ1.length=τ.length:=by rw[ok1.len,ok.len,hl]
 have okb:StOk Γ H1 (bY ow σ1) σV2:=ok1.blank hl hv
 have ext:Ext H1 H:=st.ext okb
 have get:∀ (j:Nat) t,(jX ow σ1 τ)[j]? = some (some t)->(j∈ow/\σ1[j]? = some (some t))\/(j∉ow/\τ[j]? = some (some t)):=fun j t e=>by
  by_cases h:j∈ow
  ·rw[mX ow σ1 τ j h lens]at e;exact .inl ⟨h,e⟩
  ·rw[iX ow σ1 τ j h]at e;exact .inr ⟨h,e⟩
 have bget:∀ (j:Nat) t,(bY ow σ1)[j]? = some (some t)->j∉ow/\σ1[j]? = some (some t):=fun j t e=>cD ow σ1 j t e
 have bput:∀ (j:Nat),j∉ow->(bY ow σ1)[j]? = σ1[j]?:=fun j h=>fG ow σ1 j h
 have subM:∀ a,mQ (bY ow σ1) σV2 a->∃ (j:Nat) (t:Sl),j∉ow/\σ1[j]? = some (some t)/\t.m.mt=true/\σV[j]? = some (some (.ref a)):=fun a ⟨j,t,ej,m,ea⟩=>by
  obtain⟨h1,h2⟩:=bget j t ej
  rw[hv j h1]at ea;exact⟨j,t,h1,h2,m,ea⟩
 have subN:∀ a,aZ9 (bY ow σ1) σV2 a->∃ (j:Nat) (t:Sl),j∉ow/\σ1[j]? = some (some t)/\t.m≠.val/\σV[j]? = some (some (.ref a)):=fun a ⟨j,t,ej,m,ea⟩=>by
  obtain⟨h1,h2⟩:=bget j t ej
  rw[hv j h1]at ea;exact⟨j,t,h1,h2,m,ea⟩
 have cross:∀ (j l:Nat) t t' q,j∈ow->σ1[j]? = some (some t)->l∉ow->τ[l]? = some (some t')->t.m≠.val->t'.m≠.val->(t.m.mt=true\/t'.m.mt=true)->σV[j]? = some (some (.ref q))->σV[l]? = some (some (.ref q))->False:=by
  intro j l t t' q hj ej hln el m m' mm eq eq'
  rw[← hv l hln]at eq'
  obtain⟨p,ep,ow'⟩:=ok1.ownAt ej m
  rw[eq]at ep
  have ep:=Option.some.inj (Option.some.inj ep)
  cases ep
  obtain⟨o,ho,_⟩:=ow'.obj
  rcases mm with mm | mm
  ·rcases st.nv q ⟨l,t',el,m',eq'⟩with z | z
   ·obtain⟨l',t2,h1,h2,h3,h4⟩:=subN q z
    exact ok1.dis j l' t t2 q (fun y=>h1 (by rw[← y];exact hj)) ej h2 mm h3 eq h4
   ·rw[ho]at z;cases z
  ·rcases st.mu q ⟨l,t',el,mm,eq'⟩with z | z
   ·obtain⟨l',t2,h1,h2,h3,h4⟩:=subM q z
    exact ok1.dis l' j t2 t q (fun y=>h1 (by rw[y];exact hj)) h2 ej h3 m h4 eq
   ·rw[ho]at z;cases z
 constructor
 ·refine⟨fun j t ej=>?_,fun j l t t' q n ej el m m' eq eq'=>?_,fun j t q ej m eq=>?_,fun j t q ej m eq=>?_,ok.keep,ok.dom,by rw[mE,ok.len,hl]⟩
  ·rcases get j t ej with⟨h,e⟩ | ⟨h,e⟩
   ·obtain⟨w,ew,r⟩:=ok1.rel j t e
    refine⟨w,ew,r.mono ext fun p o ep m hp=>st.fr p o hp fun z=>?_⟩
    obtain⟨l',t2,h1,h2,h3,h4⟩:=subM p z
    exact ok1.dis l' j t2 t p (fun y=>h1 (by rw[y];exact h)) h2 e h3 m h4 (by rw[ew,ep])
   ·obtain⟨w,ew,r⟩:=ok.rel j t e
    exact⟨w,by rw[← hv j h];exact ew,r⟩
  ·rcases get j t ej with⟨h,e⟩ | ⟨h,e⟩
   ·rcases get l t' el with⟨h',e'⟩ | ⟨h',e'⟩
    ·exact ok1.dis j l t t' q n e e' m m' eq eq'
    ·exact cross j l t t' q h e h' e' (gO m) m' (.inl m) eq eq'
   ·rcases get l t' el with⟨h',e'⟩ | ⟨h',e'⟩
    ·exact cross l j t' t q h' e' h e m' (gO m) (.inr m) eq' eq
    ·rw[← hv j h]at eq;rw[← hv l h']at eq'
     exact ok.dis j l t t' q n e e' m m' eq eq'
  ·rcases get j t ej with⟨h,e⟩ | ⟨h,e⟩
   ·exact ok1.own j t q e m eq
   ·rw[← hv j h]at eq;exact ok.own j t q e m eq
  ·rcases get j t ej with⟨h,e⟩ | ⟨h,e⟩
   ·exact ok1.par j t q e m eq
   ·rw[← hv j h]at eq;exact ok.par j t q e m eq
 ·refine⟨fun a o e n=>st.fr a o e fun z=>?_,st.dom,fun a ⟨j,t,ej,m,ea⟩=>?_,fun a ⟨j,t,ej,m,ea⟩=>?_,fun j t ej=>?_,fun j t ej m=>?_,fun j t ej m=>?_⟩
  ·obtain⟨l',t2,h1,h2,h3,h4⟩:=subM a z
   exact n ⟨l',t2,h2,h3,h4⟩
  ·rcases get j t ej with⟨h,e⟩ | ⟨h,e⟩
   ·exact .inl ⟨j,t,e,m,ea⟩
   ·rw[← hv j h]at ea
    rcases st.mu a ⟨j,t,e,m,ea⟩with z | z
    ·obtain⟨l',t2,h1,h2,h3,h4⟩:=subM a z
     exact .inl ⟨l',t2,h2,h3,h4⟩
    ·exact .inr z
  ·rcases get j t ej with⟨h,e⟩ | ⟨h,e⟩
   ·exact .inl ⟨j,t,e,m,ea⟩
   ·rw[← hv j h]at ea
    rcases st.nv a ⟨j,t,e,m,ea⟩with z | z
    ·obtain⟨l',t2,h1,h2,h3,h4⟩:=subN a z
     exact .inl ⟨l',t2,h2,h3,h4⟩
    ·exact .inr z
  ·by_cases h:j∈ow
   ·exact⟨t,by rw[mX ow σ1 τ j h lens];exact ej⟩
   ·obtain⟨t',et⟩:=st.kp j t (by rw[bput j h];exact ej)
    exact⟨t',by rw[iX ow σ1 τ j h];exact et⟩
  ·by_cases h:j∈ow
   ·exact⟨t,by rw[mX ow σ1 τ j h lens];exact ej,rfl,fun _=>rfl,rfl⟩
   ·obtain⟨t',et,h1,h2,h3⟩:=st.fix j t (by rw[bput j h];exact ej) m
    exact⟨t',by rw[iX ow σ1 τ j h];exact et,h1,h2,rfl⟩
  ·rcases get j t ej with⟨h,e⟩ | ⟨h,e⟩
   ·exact⟨t,e,m⟩
   ·obtain⟨t1,e1,m1⟩:=st.lt j t e m
    exact⟨t1,(bget j t1 e1).2,m1⟩
end
noncomputable def vC(ow:List Nat)(g:DG)(t:DT)(e:DE):List D->Sg->Option (List D×Sg)
 | [],τ=>some ([],τ)
 | d :: r,τ=>(g d τ).bind fun τ1=>(t τ1).bind fun x=>if x.1=true then(e x.2).bind fun y=>match y.1 with
     | .val d'=>(vC ow g t e r (bY ow y.2)).bind fun z=>some (d'::z.1,z.2)
     | _=>none else vC ow g t e r (bY ow x.2)
noncomputable def lK:DT:=fun σ=>some (true,σ)
noncomputable def dE(ow:List Nat)(ri:DI)(g:DG)(t:DT)(e:DE):DE:=fun σ=>(ri σ).bind fun x=>if x.1.length<=sizeLine then(vC ow g t e x.1 (bY ow (lendO x.2.1 x.2.2))).bind fun y=>
 some (.own (.lst y.1),pN x.2.1 x.2.2 (jX ow (lendO x.2.1 x.2.2) y.2))else none
theorem sT{Γ:Gm}{ow:List Nat}{ri:DI}{g:TG}{gd:DG}{t:DT}{e:DE}(hg:bD2 ow g gd){σV:St}{H:Hp}{Q:VK}(h:dTE Γ (dE ow ri gd t e) σV H Q) :
  zX ow (dTI Γ ri) g (dTT Γ t) (dTE Γ e) σV H Q:=by
 obtain⟨σ,ok,res,σ',er,k⟩:=h
 obtain⟨⟨items,l,σ1⟩,e1,er⟩:=aD er
 dsimp only at er
 split at er
 case isFalse=>cases er
 case isTrue hlen=>
 obtain⟨⟨all,τe⟩,e2,er⟩:=aD er
 cases er
 refine⟨σ,ok,items,l,σ1,e1,fun J H1 P ok1 st1 itd stay=>?_⟩
 have bl:(blank ow σV).length=σV.length:=gC ow σV
 have bo:∀ j,j∉ow->(blank ow σV)[j]? = σV[j]?:=fun j hj=>fG ow σV j hj
 have okL:StOk Γ H1 (lendO l σ1) σV:=ok1.lendO
 have okB:StOk Γ H1 (bY ow (lendO l σ1)) (blank ow σV):=okL.blank bl bo
 have hb:∀ (j:Nat) t,(bY ow (lendO l σ1))[j]? = some (some t)->j∉ow:=fun j t ej=>(cD ow _ j t ej).1
 -- a step within,as a step of the whole
 have whole:∀ τ H2,StOk Γ H2 τ (blank ow σV)->Step (bY ow (lendO l σ1)) (blank ow σV) H1 τ (blank ow σV) H2->StOk Γ H2 (jX ow (lendO l σ1) τ) σV/\Step (lendO l σ1) σV H1 (jX ow (lendO l σ1) τ) σV H2:=
  fun τ H2 ok2 st2=>bQ9 okL ok2 bo bl st2
 refine⟨fun i m ys H2=>m=items.length-i/\i<=items.length/\∃ τ don kD,vC ow gd t e (items.drop i) τ=some (kD,τe)/\don++kD=all/\don.length<=i/\Rps H2 don ys/\StOk Γ H2 τ (blank ow σV)/\Step (bY ow (lendO l σ1)) (blank ow σV) H1 τ (blank ow σV) H2,
  ⟨items.length,by simp,Nat.zero_le _,bY ow (lendO l σ1),[],all,by simpa using e2,rfl,Nat.zero_le _,.nil,okB,.refl⟩,?_⟩
 rintro i m ys H2 ⟨rfl,hi,τ,don,kD,ec,hall,hdl,hr,ok2,st2⟩
 have hyl:=hr.length
 obtain⟨okw,stw⟩:=whole τ H2 ok2 st2
 have hP:=stay _ σV H2 stw
 refine⟨by omega,?_⟩
 by_cases hlt:i < items.length
 ·have ei:items[i]? = some items[i]:=List.getElem?_eq_getElem hlt
  refine .inr ⟨itd.go H2 i _ hP ei,fun y H3 hy=>?_⟩
  obtain⟨sm,ry⟩:=itd.yld H2 i _ y H3 hP ei hy
  rw[List.drop_eq_getElem_cons hlt]at ec
  obtain⟨τ1,eg,ec⟩:=aD ec
  obtain⟨⟨b,τ2⟩,et,ec⟩:=aD ec
  refine hg Γ H3 _ _ _ τ (blank ow σV) _ y τ1 _ (ok2.same sm) (st2.trans (.same sm)) ry eg fun σV3 ok3 st3 l3 f3=>?_
  have ext3:Ext H2 H3:=.same sm
  refine⟨τ1,ok3,b,τ2,et,fun H4 ok4 st4=>?_⟩
  have ext4:Ext H3 H4:=st4.ext ok3
  dsimp only at ec
  split at ec
  ·rename_i hbt
   dsimp only
   rw[if_pos hbt]
   obtain⟨⟨r5,τ3⟩,ee,ec⟩:=aD ec
   refine⟨τ2,ok4,r5,τ3,ee,fun v H5 ok5 r5' st5 f5=>?_⟩
   dsimp only at ec
   split at ec
   ·rename_i d'
    obtain⟨⟨rest',τe'⟩,ec',ec⟩:=aD ec
    cases ec
    refine⟨_,by omega,rfl,hlt,bY ow τ3,don++[d'],rest',ec',by rw[← hall];simp,by simp;omega,?_,ok5.blank (by rw[l3]) (fun j hj=>((f3 j hj).1).symm),Step.blank hb ((st3.trans st4).trans st5) fun j hj=>((f3 j hj).1).symm⟩
    exact((hr.mono ext3).mono ext4 |>.mono (st5.ext ok4)).append (.cons r5' .nil)
   ·cases ec
  ·rename_i hbf
   dsimp only
   rw[if_neg hbf]
   refine⟨_,by omega,rfl,hlt,bY ow τ2,don,kD,ec,hall,by omega,(hr.mono ext3).mono ext4,ok4.blank (by rw[l3]) (fun j hj=>((f3 j hj).1).symm),Step.blank hb (st3.trans st4) fun j hj=>((f3 j hj).1).symm⟩
 ·have e0:i=items.length:=by omega
  subst e0
  rw[List.drop_length]at ec
  cases ec
  rw[List.append_nil]at hall
  subst hall
  refine .inl ⟨itd.stop H2 hP,fun p hp=>?_⟩
  obtain⟨okU,stU⟩:=qZ ok1 okw stw
  have sm:uN H2 (upd H2 p (.lst ys)):=bV hp
  have nw:uY H2 (upd H2 p (.lst ys)) (.own (.lst don)) (.ref p):=⟨p,rfl,hp,ys,aT,hr.mono (.same sm)⟩
  exact k _ _ (okU.same sm) (nw.res okU) ((st1.trans stU).trans (.same sm)) (nw.frh.back (st1.trans stU))
theorem cY{X:Cx}{ow:List Nat}{ex:Expr}{ri:DI}{g:TG}{gd:DG}{t:DT}{e:DE}(hg:bD2 ow g gd)(h:∀ Γ,PE X ex (zX ow (dTI Γ ri) g (dTT Γ t) (dTE Γ e))):GE X ex (dE ow ri gd t e):=.mk fun Γ=>peW (h Γ) fun _ _ _=>sT hg
theorem gL{X:Cx}{Γ:Gm}:bI3 X [] (dTT Γ lK):=fun pins s σ H Q I ⟨τ,ok,b,σ',e,k⟩=>qO pins s σ H Q I (by cases e;exact k H ok .refl)
theorem dD{X:Cx}{Γ:Gm}{c:Expr}{t:DT}(h:GT X c t):bI3 X [c] (dTT Γ t):=xT (h.to Γ)
theorem jI{X:Cx}{E:Ex}{ow:List Nat}{i:Nat}{st:Stmt}{ri:DI}{g:TG}{gd:DG}{t:DT}{e:DE}(hg:bD2 ow g gd)(h:∀ Γ,PS X st (fun D σ H=>zX ow (dTI Γ ri) g (dTT Γ t) (dTE Γ e) σ H fun v H1=>D.nx (σ.set i (some v)) H1)):GS E X st (cC i (dE ow ri gd t e)):=.mk fun Γ=>psW (h Γ) fun D σV H h=>sT hg (yK h)
noncomputable abbrev Run:=List Sl->Option (Res×List Sl)
structure ArgOk(H:Hp)(as:List Sl)(vs:List V):Prop where
 len:as.length=vs.length
 rel:∀ (i:Nat) s,as[i]? = some s->∃ v,vs[i]? = some v/\bC9 H s v
 dis:∀ (i j:Nat) s t p,i≠j->as[i]? = some s->as[j]? = some t->s.m.mt=true->t.m≠.val->vs[i]? = some (.ref p)->vs[j]? = some (.ref p)->False
 own:∀ (i:Nat) s,as[i]? = some s->s.m≠.own
noncomputable def bR0(as:List Sl)(vs:List V)(a:Addr):Prop:=∃ (i:Nat) (s:Sl),as[i]? = some s/\s.m.mt=true/\vs[i]? = some (.ref a)
structure PostOk(as:List Sl)(vs:List V)(H:Hp)(as':List Sl)(H':Hp):Prop where
 rel:∀ (i:Nat) s,as[i]? = some s->s.m.mt=true->∃ s' v,as'[i]? = some s'/\s'.m=s.m/\vs[i]? = some v/\bC9 H' s' v
 fr:∀ a o,H a=some o->¬ bR0 as vs a->H' a=some o
 dom:∀ a,H' a=none->H a=none
noncomputable def dsp(n:Nat)(run:Run):Sp:=fun vs H Q _=>∃ as res as',ArgOk H as vs/\as.length=n/\run as=some (res,as')/\∀ v H',PostOk as vs H as' H'->uY H H' res v->Q v H'
noncomputable def bX3(σ:Sg):Res->Option Res
 | .val d=>some (.val d)
 | .own d=>some (.own d)
 | .slot i=>match σ[i]? with
   | some (some s)=>if s.m=.own then some (.own s.d)else if s.m=.val then some (.val s.d)else none
   | _=>none
noncomputable def nQ:List Sl->Sg->List Sl
 | [],_=>[]
 | a::as,some s::σ=>(if a.m=.val then a else s)::nQ as σ
 | a::as,_::σ=>a::nQ as σ
 | a::as,[]=>a::as
noncomputable def ini(len:Nat)(as:List Sl):Sg:=as.map some++List.replicate (len-as.length) none
noncomputable def pQ(len:Nat)(body:DS):Run:=fun as=>(body (ini len as)).bind fun o=>match o with
 | .nx σ=>some (.val .non,nQ as σ)
 | .rt r σ=>(bX3 σ r).bind fun r'=>some (r',nQ as σ)
 | _=>none
theorem jY{len:Nat}{as:List Sl}{i:Nat}{s:Sl}:(ini len as)[i]? = some (some s)↔as[i]? = some s:=by
 unfold ini
 by_cases h:i < as.length
 ·rw[List.getElem?_append_left (by simpa using h),List.getElem?_map]
  cases as[i]? <;> simp
 ·rw[List.getElem?_append_right (by simpa using h),List.getElem?_replicate,List.getElem?_eq_none_iff.mpr (by omega)]
  split<;>simp
theorem gZ{N:List Str}{vs:List V}{i:Nat}{v:V}:(L2.kH N vs)[i]? = some (some v)↔vs[i]? = some v:=by
 unfold L2.kH
 by_cases h:i < vs.length
 ·rw[List.getElem?_append_left (by simpa using h),List.getElem?_map]
  cases vs[i]? <;> simp
 ·rw[List.getElem?_append_right (by simpa using h),List.getElem?_replicate,List.getElem?_eq_none_iff.mpr (by omega)]
  split<;>simp
theorem yN:∀ {as:List Sl} {σ:Sg} {i:Nat} {a s:Sl},as[i]? = some a->σ[i]? = some (some s)->(nQ as σ)[i]? = some (if a.m=.val then a else s)
 | [],_,_,_,_,h,_=>by simp at h
 | _::_,[],_,_,_,_,h=>by simp at h
 | a::as,o::σ,0,a',s,h,h'=>by
   simp at h h'
   subst h h'
   unfold nQ
   simp
 | a::as,o::σ,i+1,a',s,h,h'=>by
   have:=yN (as:=as) (σ:=σ) (i:=i) (a:=a') (s:=s) (by simpa using h) (by simpa using h')
   cases o<;>(unfold nQ;simpa using this)
section
variable{P:Program}{w:World}{K:PySem.W.Frag}{mg:Str->Option Value}{base:Heap}
noncomputable abbrev MS:=Sg->(Out->Prop)->Prop
noncomputable abbrev MC:=List Sl->(Res->List Sl->Prop)->Prop
noncomputable def yO(m:MS):Prop:=∀ σ (Q Q':Out->Prop),(∀ o,Q o->Q' o)->m σ Q->m σ Q'
noncomputable def mTS(Γ:Gm)(E:Ex)(m:MS):TS:=fun D σV H=>∃ σ,StOk Γ H σ σV/\m σ fun o=>aJ3 Γ E σ σV H o D
structure GM(E:Ex)(X:Cx)(ss:List Stmt)(m:MS):Prop where
 to:∀ Γ,PSs X ss (mTS Γ E m)
 mon:yO m
noncomputable def aJ7(n:Nat)(C:MC):Sp:=fun vs H Q _=>∃ as,ArgOk H as vs/\as.length=n/\C as fun res as'=>∀ v H',PostOk as vs H as' H'->uY H H' res v->Q v H'
noncomputable def cS4(as:List Sl)(K:Res->List Sl->Prop)(o:Out):Prop:=match o with
 | .nx σ=>K (.val .non) (nQ as σ)
 | .rt r σ=>∃ r',bX3 σ r=some r'/\K r' (nQ as σ)
 | _=>False
noncomputable def bX4(len:Nat)(m:MS):MC:=fun as K=>m (ini len as) (cS4 as K)
theorem vD{x qual:Str}{st:Stmt}{f:Addr}{fd:FuncData}{N ps:List Str}{k:Nat}(F:Fun K x qual st f fd)(S:FnScope N ps (bA st))(hNl:ps.length<=N.length)(m:MS)(hm:yO m)
  (hb:∀ (cdv:Value) (A:Around) (outer:List Env) (s:Shared) (H:Hp) (E:XK),Room k (A.deeper (PyProof.Rows.envOfC qual (bA st) s.heap.objs.size f cdv))->∀ Γ,PSs (bH8 CX0 P w K mg base N qual (bA st) f cdv A outer s H E).nox (lI st) (mTS Γ Ex.no m)) :
  FnOk P w K mg base CX0 (k+1) f fd ps (aJ7 ps.length (bX4 N.length m)):=by
 refine F.ok S (fun vs H Q E ⟨as,ok,hl,_⟩=>by rw[← ok.len];exact hl) fun cdv A outer s H vs Q E hr h=>?_
 obtain⟨as,ok,hl,h⟩:=h
 refine⟨_,hb cdv A outer s H E hr ⟨H,bR0 as vs⟩,ini N.length as,?_,hm _ _ _ (fun o k=>?_) h⟩
 ·refine⟨fun i s e=>?_,fun i j s t p n ei ej m m' e e'=>?_,fun i s p ei m=>?_,fun i s p ei m e=>?_,fun a o e _=>e,fun a e=>e,?_⟩
  ·obtain⟨v,e1,r⟩:=ok.rel i s (jY.mp e)
   exact⟨v,gZ.mpr e1,r⟩
  ·exact ok.dis i j s t p n (jY.mp ei) (jY.mp ej) m m' (gZ.mp e) (gZ.mp e')
  ·exact absurd m (ok.own i s (jY.mp ei))
  ·exact⟨i,s,jY.mp ei,by rw[m];rfl,gZ.mp e⟩
  ·unfold ini L2.kH
   have:=ok.len
   simp;omega
 ·have post:∀ σ σV' H',StOk ⟨H,bR0 as vs⟩ H' σ σV'->Step (ini N.length as) (L2.kH N vs) H σ σV' H'->PostOk as vs H (nQ as σ) H':=fun σ σV' H' ok' st'=>by
   have nl:∀ a,mQ (ini N.length as) (L2.kH N vs) a->bR0 as vs a:=fun a ⟨j,t,ej,m,ea⟩=>⟨j,t,jY.mp ej,m,gZ.mp ea⟩
   refine⟨fun i a ei m=>?_,fun a o e n=>st'.fr a o e fun z=>n (nl a z),st'.dom⟩
   have hp:a.m=.par:=by
    have h0:=ok.own i a ei
    cases q:a.m with
    | par=>rfl
    | own=>exact absurd q h0
    | val=>rw[q]at m;cases m
    | lent=>rw[q]at m;cases m
   obtain⟨s',es,ms,_,ev⟩:=st'.fix i a (jY.mpr ei) (.inl hp)
   obtain⟨v,e1,r⟩:=ok'.rel i s' es
   obtain⟨v0,e0,_⟩:=ok.rel i a ei
   have:some (some v)=some (some v0):=by rw[← e1,ev];exact gZ.mpr e0
   cases this
   refine⟨s',v,?_,ms,e0,r⟩
   rw[yN ei es,if_neg (by rw[hp];exact fun z=>nomatch z)]
  cases o with
  | nx σ=>
    exact fun σV' H' ok' st'=>k .non H' (post σ σV' H' ok' st') .non
  | rt r σ=>
    obtain⟨res,e1,k⟩:=k
    intro v σV' H' ok' r1 st'
    refine k v H' (post σ σV' H' ok' st') ?_
    cases r with
    | val d=>cases e1;exact r1
    | own d=>
      cases e1
      obtain⟨p,q1,q2,q3,q4⟩:=r1
      exact⟨p,q1,q4,q2⟩
    | slot i=>
      obtain⟨q1,s',q2⟩:=r1
      have e1':(match σ[i]? with | some (some s)=>if s.m=.own then some (Res.own s.d)else if s.m=.val then some (.val s.d)else none | _=>none)=some res:=e1
      rw[q2]at e1'
      dsimp only at e1'
      obtain⟨v',ev,rv⟩:=ok'.rel i s' q2
      rw[q1]at ev;cases ev
      split at e1'
      ·rename_i hm
       cases e1'
       obtain⟨p,rfl,ow⟩:=(cU (by rw[hm];exact fun z=>nomatch z)).mp rv
       exact⟨p,rfl,ok'.own i s' p q2 hm q1,ow⟩
      ·split at e1'
       ·rename_i hm
        cases e1'
        obtain⟨m,d⟩:=s'
        cases hm
        exact rv
       ·cases e1'
  | bk σ=>exact k.elim
  | ct σ=>exact k.elim
  | ex c f σ=>exact k.elim
theorem dF{x qual:Str}{st:Stmt}{f:Addr}{fd:FuncData}{N ps:List Str}{k:Nat}(F:Fun K x qual st f fd)(S:FnScope N ps (bA st))(hNl:ps.length<=N.length)(body:DS)
  (hb:∀ (cdv:Value) (A:Around) (outer:List Env) (s:Shared) (H:Hp) (E:XK),Room k (A.deeper (PyProof.Rows.envOfC qual (bA st) s.heap.objs.size f cdv))->GSs Ex.no (bH8 CX0 P w K mg base N qual (bA st) f cdv A outer s H E).nox (lI st) body) :
  FnOk P w K mg base CX0 (k+1) f fd ps (dsp ps.length (pQ N.length body)):=
 (vD F S hNl (fun σ Q=>∃ o,body σ=some o/\Q o) (fun σ Q Q' w ⟨o,e,q⟩=>⟨o,e,w o q⟩) fun cdv A outer s H E hr Γ=>cE7 ((hb cdv A outer s H E hr).to Γ) fun D σV H ⟨σ,ok,o,e,q⟩=>⟨σ,ok,o,e,q⟩).imp
  fun vs H Q E ⟨as,res,as',ok,hl,hrun,k⟩=>by
   obtain⟨o,eo,hrun⟩:=aD hrun
   refine⟨as,ok,hl,o,eo,?_⟩
   cases o with
   | nx σ=>cases hrun;exact k
   | rt r σ=>
     obtain⟨r',e1,hrun⟩:=aD hrun
     cases hrun
     exact⟨_,e1,k⟩
   | bk σ=>cases hrun
   | ct σ=>cases hrun
   | ex c f σ=>cases hrun
end
noncomputable def vE(σ:Sg):Res->Option Sl
 | .val d=>some ⟨.val,d⟩
 | .own d=>some ⟨.par,d⟩
 | .slot i=>match σ[i]? with
   | some (some s)=>some ⟨if s.m.mt=true then .par else s.m,s.d⟩
   | _=>none
noncomputable def nR(σ:Sg):List Res->Option (List Sl)
 | []=>some []
 | r::rs=>(vE σ r).bind fun a=>(nR σ rs).bind fun as=>some (a::as)
noncomputable def bA4(i:Nat):List Res->Bool
 | []=>false
 | .slot j::rs=>decide (i=j)||bA4 i rs
 | _::rs=>bA4 i rs
noncomputable def eM:List Res->Bool
 | []=>true
 | .slot i::rs=>!bA4 i rs&&eM rs
 | _::rs=>eM rs
noncomputable def iY(j:Nat):List Res->List Sl->Option Sl
 | .slot i::rs,a::as=>if i=j then some a else iY j rs as
 | _::rs,_::as=>iY j rs as
 | _,_=>none
noncomputable def iL(rs:List Res)(as:List Sl):Nat->Sg->Sg
 | _,[]=>[]
 | k,some s::σ=>(match iY k rs as with
   | some a=>some (if s.m.mt=true then⟨s.m,a.d⟩else s)
   | none=>some s)::iL rs as (k+1) σ
 | k,none::σ=>none::iL rs as (k+1) σ
noncomputable def aX(n:Nat)(run:Run)(ra:DA):DE:=fun σ=>(ra σ).bind fun x=>(nR x.2 x.1).bind fun as=>if as.length=n/\eM x.1=true then(run as).bind fun y=>some (y.1,iL x.1 y.2 0 x.2)else none
theorem pR{σ:Sg}:∀ {rs:List Res} {as:List Sl},nR σ rs=some as->as.length=rs.length/\∀ (k:Nat) r,rs[k]? = some r->∃ a,as[k]? = some a/\vE σ r=some a
 | [],as,h=>by cases h;exact⟨rfl,fun k r e=>by simp at e⟩
 | r::rs,as,h=>by
   obtain⟨a,e1,h⟩:=aD h
   obtain⟨as',e2,h⟩:=aD h
   cases h
   obtain⟨l,g⟩:=pR e2
   refine⟨by simp[l],fun k r' e=>?_⟩
   cases k with
   | zero=>simp at e;subst e;exact⟨a,rfl,e1⟩
   | succ k=>
     obtain⟨a',h1,h2⟩:=g k r' (by simpa using e)
     exact⟨a',by simpa using h1,h2⟩
theorem ResOks.get{Γ:Gm}{H:Hp}{σ:Sg}{σV:St}:∀ {rs:List Res} {vs:List V},ResOks Γ H σ σV rs vs->rs.length=vs.length/\∀ (k:Nat) r,rs[k]? = some r->∃ v,vs[k]? = some v/\iW Γ H σ σV r v
 | _,_,.nil=>⟨rfl,fun k r e=>by simp at e⟩
 | _,_,.cons h t _=>by
   obtain⟨l,g⟩:=ResOks.get t
   refine⟨by simp[l],fun k r' e=>?_⟩
   cases k with
   | zero=>simp at e;subst e;exact⟨_,rfl,h⟩
   | succ k=>
     obtain⟨a',h1,h2⟩:=g k r' (by simpa using e)
     exact⟨a',by simpa using h1,h2⟩
theorem ResOks.dis{Γ:Gm}{H:Hp}{σ:Sg}{σV:St}:∀ {rs:List Res} {vs:List V},ResOks Γ H σ σV rs vs->∀ (k l:Nat) d d' p,k < l->rs[k]? = some (.own d)->rs[l]? = some (.own d')->vs[k]? = some (.ref p)->vs[l]? ≠ some (.ref p)
 | _,_,.nil,k,l,d,d',p,_,e,_,_=>by simp at e
 | _,_,.cons h t q,k,l,d,d',p,hkl,e,e',ev=>by
   cases l with
   | zero=>omega
   | succ l=>
     cases k with
     | zero=>
       simp at e ev
       subst e ev
       intro z
       exact q d p rfl rfl l d' (by simpa using e') (by simpa using z)
     | succ k=>
       intro z
       exact ResOks.dis t k l d d' p (by omega) (by simpa using e) (by simpa using e') (by simpa using ev) (by simpa using z)
theorem mY{i:Nat}:∀ {rs:List Res} {k:Nat},rs[k]? = some (.slot i)->bA4 i rs=true
 | [],_,h=>by simp at h
 | r::rs,0,h=>by simp at h;subst h;simp[bA4]
 | r::rs,k+1,h=>by
   have:=mY (rs:=rs) (k:=k) (by simpa using h)
   cases r<;>simp[bA4,this]
theorem lM:∀ {rs:List Res},eM rs=true->∀ (k l i:Nat),rs[k]? = some (.slot i)->rs[l]? = some (.slot i)->k=l
 | [],_,k,l,i,h,_=>by simp at h
 | r::rs,hn,k,l,i,h,h'=>by
   cases k with
   | zero=>
     cases l with
     | zero=>rfl
     | succ l=>
       simp at h
       subst h
       unfold eM at hn
       rw[Bool.and_eq_true]at hn
       rw[mY (k:=l) (by simpa using h')]at hn
       simp at hn
   | succ k=>
     cases l with
     | zero=>
       simp at h'
       subst h'
       unfold eM at hn
       rw[Bool.and_eq_true]at hn
       rw[mY (k:=k) (by simpa using h)]at hn
       simp at hn
     | succ l=>
       have hn':eM rs=true:=by
        cases r with
        | slot j=>unfold eM at hn;rw[Bool.and_eq_true]at hn;exact hn.2
        | val d=>exact hn
        | own d=>exact hn
       exact congrArg Nat.succ (lM hn' k l i (by simpa using h) (by simpa using h'))
theorem fX{j:Nat}:∀ {rs:List Res} {as:List Sl} {a:Sl},iY j rs as=some a->∃ k:Nat,rs[k]? = some (.slot j)/\as[k]? = some a
 | [],_,_,h=>by simp[iY]at h
 | r::rs,[],_,h=>by cases r<;>simp[iY]at h
 | r::rs,a::as,b,h=>by
   cases r with
   | slot i=>
     have h':(if i=j then some a else iY j rs as)=some b:=h
     split at h'
     ·rename_i e;cases h';subst e;exact⟨0,rfl,rfl⟩
     ·obtain⟨k,h1,h2⟩:=fX h'
      exact⟨k+1,by simpa using h1,by simpa using h2⟩
   | val d=>obtain⟨k,h1,h2⟩:=fX (rs:=rs) (as:=as) h;exact⟨k+1,by simpa using h1,by simpa using h2⟩
   | own d=>obtain⟨k,h1,h2⟩:=fX (rs:=rs) (as:=as) h;exact⟨k+1,by simpa using h1,by simpa using h2⟩
noncomputable def kW(rs:List Res)(as:List Sl)(k:Nat)(o:Option Sl):Option Sl:=match o with
 | some s=>(match iY k rs as with
   | some a=>some (if s.m.mt=true then⟨s.m,a.d⟩else s)
   | none=>some s)
 | none=>none
theorem iZ{rs:List Res}{as:List Sl}:∀ (k:Nat) (σ:Sg) (j:Nat),(iL rs as k σ)[j]? = (σ[j]?).map (kW rs as (k+j))
 | _,[],_=>by simp[iL]
 | k,o::σ,0=>by cases o<;>simp[iL,kW]
 | k,o::σ,j+1=>by
   have:=iZ (rs:=rs) (as:=as) (k+1) σ j
   have e:k+1+j=k+(j+1):=by omega
   rw[e]at this
   cases o<;>simpa[iL]using this
theorem mF{rs:List Res}{as:List Sl}:∀ (k:Nat) (σ:Sg),(iL rs as k σ).length=σ.length
 | _,[]=>rfl
 | k,o::σ=>by cases o<;>simp[iL,mF (k+1) σ]
theorem sU{Γ:Gm}{σ σ1:Sg}{rs:List Res}{as:List Sl}{σV:St}{H H1:Hp}{vs:List V}(e2:nR σ1 rs=some as)(hc:eM rs=true)(ok1:StOk Γ H1 σ1 σV)(r1:ResOks Γ H1 σ1 σV rs vs)(st1:Step σ σV H σ1 σV H1)
  (f1:∀ (j:Nat) d p,rs[j]? = some (.own d)->vs[j]? = some (.ref p)->H p=none) :
  ArgOk H1 as vs/\∀ r as' v H2,PostOk as vs H1 as' H2->uY H1 H2 r v->StOk Γ H2 (iL rs as' 0 σ1) σV/\iW Γ H2 (iL rs as' 0 σ1) σV r v/\Step σ σV H (iL rs as' 0 σ1) σV H2/\Frh H r v:=by
 obtain⟨la,ga⟩:=pR e2
 obtain⟨lv,gv⟩:=r1.get
 have arg:∀ (i:Nat) a,as[i]? = some a->∃ r v,rs[i]? = some r/\vE σ1 r=some a/\vs[i]? = some v/\iW Γ H1 σ1 σV r v:=fun i a ea=>by
  have hi:i < rs.length:=by rw[← la];exact(List.getElem?_eq_some_iff.mp ea).1
  have er:rs[i]? = some rs[i]:=List.getElem?_eq_getElem hi
  obtain⟨a',h1,h2⟩:=ga i _ er
  rw[ea]at h1;cases h1
  obtain⟨v,h3,h4⟩:=gv i _ er
  exact⟨_,v,er,h2,h3,h4⟩
 have slotArg:∀ i a,vE σ1 (.slot i)=some a->∃ s,σ1[i]? = some (some s)/\a=⟨if s.m.mt=true then .par else s.m,s.d⟩:=fun i a ea=>by
  have ea':(match σ1[i]? with | some (some s)=>some (⟨if s.m.mt=true then .par else s.m,s.d⟩:Sl) | _=>none)=some a:=ea
  split at ea'
  ·rename_i s hs;cases ea';exact⟨s,hs,rfl⟩
  ·cases ea'
 -- an argument that may change: new,or owned here
 have mutArg:∀ a,bR0 as vs a->mQ σ1 σV a\/(H a=none/\¬ aZ9 σ1 σV a/\Γ.H₀ a=none):=fun a ⟨i,s,ei,m,ev⟩=>by
  obtain⟨r,v,er,ea,ev',rv⟩:=arg i s ei
  rw[ev]at ev';cases ev'
  cases r with
  | val d=>cases ea;cases m
  | own d=>
    obtain⟨p,q1,q2,q3,q4⟩:=rv
    cases q1
    exact .inr ⟨f1 i d a er ev,q3,q4⟩
  | slot j=>
    obtain⟨s',hs,rfl⟩:=slotArg j s ea
    obtain⟨q1,_⟩:=rv
    refine .inl ⟨j,s',hs,?_,q1⟩
    by_cases hm:s'.m.mt=true
    ·exact hm
    ·simp only[hm]at m;exact absurd m hm
 have argok:ArgOk H1 as vs:=by
  refine⟨by rw[la,lv],fun i a ei=>?_,fun i j s t p nij ei ej m m' ev ev'=>?_,fun i a ei=>?_⟩
  ·obtain⟨r,v,er,ea,ev,rv⟩:=arg i a ei
   refine⟨v,ev,?_⟩
   cases r with
   | val d=>cases ea;exact rv
   | own d=>cases ea;obtain⟨p,q1,q2,_⟩:=rv;exact⟨p,q1,q2⟩
   | slot j=>
     obtain⟨s',hs,rfl⟩:=slotArg j a ea
     obtain⟨q1,_⟩:=rv
     obtain⟨v',e4,r4⟩:=ok1.rel j s' hs
     rw[q1]at e4;cases e4
     by_cases hm:s'.m.mt=true
     ·simp only[hm,if_true]
      exact(cU (s:=⟨.par,s'.d⟩) (fun z=>nomatch z)).mpr ((cU (gO hm)).mp r4)
     ·simp only[hm];exact r4
  ·obtain⟨r,v,er,ea,ev1,rv⟩:=arg i s ei
   obtain⟨r2,v2,er2,ea2,ev2,rv2⟩:=arg j t ej
   rw[ev]at ev1;cases ev1
   rw[ev']at ev2;cases ev2
   have nvSlot:∀ l a,vE σ1 (.slot l)=some a->a.m≠.val->∃ s,σ1[l]? = some (some s)/\s.m≠.val/\(a.m.mt=true->s.m.mt=true):=fun l a ea hm=>by
    obtain⟨s',hs,rfl⟩:=slotArg l a ea
    refine⟨s',hs,?_,?_⟩
    ·intro z;simp only[z,Md.mt]at hm;exact hm rfl
    ·intro z
     by_cases hm':s'.m.mt=true
     ·exact hm'
     ·simp only[hm']at z;exact z
   cases r with
   | val d=>cases ea;cases m
   | own d=>
     obtain⟨q,q1,q2,q3,q4⟩:=rv
     cases q1
     cases r2 with
     | val d=>cases ea2;exact m' rfl
     | own d2=>
       rcases Nat.lt_or_gt_of_ne nij with z | z
       ·exact r1.dis i j d d2 p z er er2 ev ev'
       ·exact r1.dis j i d2 d p z er2 er ev' ev
     | slot l=>
       obtain⟨s',hs,hm',_⟩:=nvSlot l t ea2 m'
       exact q3 ⟨l,s',hs,hm',rv2.1⟩
   | slot l=>
     obtain⟨s',hs,hm',hmt⟩:=nvSlot l s ea (gO m)
     cases r2 with
     | val d=>cases ea2;exact m' rfl
     | own d2=>
       obtain⟨q,q1,q2,q3,q4⟩:=rv2
       cases q1
       exact q3 ⟨l,s',hs,hm',rv.1⟩
     | slot l2=>
       obtain⟨s2,hs2,hm2,_⟩:=nvSlot l2 t ea2 m'
       refine ok1.dis l l2 s' s2 p (fun z=>?_) hs hs2 (hmt m) hm2 rv.1 rv2.1
       subst z
       exact nij (lM hc i j l er er2)
  ·obtain⟨r,v,er,ea,ev1,rv⟩:=arg i a ei
   cases r with
   | val d=>cases ea;exact fun z=>nomatch z
   | own d=>cases ea;exact fun z=>nomatch z
   | slot j=>
     obtain⟨s',hs,rfl⟩:=slotArg j a ea
     intro z
     by_cases hm:s'.m.mt=true
     ·simp only[hm,if_true]at z;cases z
     ·simp only[hm]at z
      have z':s'.m=.own:=z
      rw[z']at hm;exact hm rfl
 refine⟨argok,fun r as' v H2 po nw=>?_⟩
 have extA:Ext H1 H2:=by
  refine⟨fun p xs h=>po.fr p _ h fun z=>?_,fun p o u h=>po.fr p _ h fun z=>?_⟩
  ·obtain⟨i,s,ei,m,ev⟩:=z
   obtain⟨v,e4,r4⟩:=argok.rel i s ei
   rw[ev]at e4;cases e4
   obtain⟨q,eq,ow⟩:=(cU (gO m)).mp r4
   cases eq
   obtain⟨o,ho,n1,_⟩:=ow.obj
   rw[h]at ho;cases ho;exact n1 _ rfl
  ·obtain⟨i,s,ei,m,ev⟩:=z
   obtain⟨v,e4,r4⟩:=argok.rel i s ei
   rw[ev]at e4;cases e4
   obtain⟨q,eq,ow⟩:=(cU (gO m)).mp r4
   cases eq
   obtain⟨o',ho,_,n1⟩:=ow.obj
   rw[h]at ho;cases ho;exact n1 _ _ rfl
 have back:∀ (j:Nat) t,(iL rs as' 0 σ1)[j]? = some (some t)->∃ s,σ1[j]? = some (some s)/\t.m=s.m/\(t=s\/(s.m.mt=true/\∃ (k:Nat) (a:Sl),rs[k]? = some (.slot j)/\as'[k]? = some a/\t=⟨s.m,a.d⟩)):=fun j t ej=>by
  rw[iZ,Nat.zero_add]at ej
  cases q:σ1[j]? with
  | none=>rw[q]at ej;cases ej
  | some o=>
    rw[q]at ej
    cases o with
    | none=>cases ej
    | some s=>
      have ej':kW rs as' j (some s)=some t:=Option.some.inj ej
      unfold kW at ej'
      refine⟨s,rfl,?_⟩
      dsimp only at ej'
      split at ej'
      ·rename_i a ha
       obtain⟨k',h1,h2⟩:=fX ha
       have ej'':=Option.some.inj ej'
       by_cases hm:s.m.mt=true
       ·rw[if_pos hm]at ej''
        subst ej''
        exact⟨rfl,.inr ⟨hm,k',a,h1,h2,rfl⟩⟩
       ·rw[if_neg hm]at ej''
        subst ej''
        exact⟨rfl,.inl rfl⟩
      ·cases ej';exact⟨rfl,.inl rfl⟩
 have fwd:∀ (j:Nat) s,σ1[j]? = some (some s)->∃ t,(iL rs as' 0 σ1)[j]? = some (some t)/\t.m=s.m/\(s.m.mt=false->t=s):=fun j s ej=>by
  rw[iZ,Nat.zero_add,ej]
  show ∃ t,some (kW rs as' j (some s))=some (some t)/\_
  unfold kW
  dsimp only
  split
  ·refine⟨_,rfl,?_,fun z=>?_⟩
   ·split<;>rfl
   ·rw[if_neg (by rw[z];exact Bool.false_ne_true)]
  ·exact⟨s,rfl,rfl,fun _=>rfl⟩
 -- a slot that is handed in by no argument that may change
 have quiet:∀ (j:Nat) s t p,σ1[j]? = some (some s)->(iL rs as' 0 σ1)[j]? = some (some t)->t=s->s.m≠.val->σV[j]? = some (some (.ref p))->(∀ k:Nat,s.m.mt=true->rs[k]? ≠ some (.slot j))->¬ bR0 as vs p:=by
  intro j s t p hs _ _ hm ev hno ⟨i,a,ei,m,evi⟩
  obtain⟨r,v,er,ea,ev1,rv⟩:=arg i a ei
  rw[evi]at ev1;cases ev1
  cases r with
  | val d=>cases ea;cases m
  | own d=>
    obtain⟨q,q1,q2,q3,q4⟩:=rv
    cases q1
    exact q3 ⟨j,s,hs,hm,ev⟩
  | slot l=>
    obtain⟨s',hs',rfl⟩:=slotArg l a ea
    have hmt:s'.m.mt=true:=by
     by_cases h':s'.m.mt=true
     ·exact h'
     ·simp only[h']at m;exact absurd m h'
    by_cases z:l=j
    ·subst z
     rw[hs]at hs';cases hs'
     exact hno i hmt er
    ·exact ok1.dis l j s' s p z hs' hs hmt hm rv.1 ev
 have okB:StOk Γ H2 (iL rs as' 0 σ1) σV:=by
  refine⟨fun j t ej=>?_,fun j l t t' q n ej el m m' eq eq'=>?_,fun j t q ej m eq=>?_,fun j t q ej m eq=>?_,fun a o e n=>?_,fun a e=>ok1.dom a (po.dom a e),by rw[mF];exact ok1.len⟩
  ·obtain⟨s,hs,mm,hc'⟩:=back j t ej
   obtain⟨w',ew,rw'⟩:=ok1.rel j s hs
   refine⟨w',ew,?_⟩
   by_cases hslot:s.m.mt=true/\∃ k':Nat,rs[k']? = some (.slot j)
   ·obtain⟨hm,k',hk'⟩:=hslot
    obtain⟨a,ha,hao⟩:=ga k' _ hk'
    obtain⟨v',hv',rv'⟩:=gv k' _ hk'
    have ev':σV[j]? = some (some v'):=rv'.1
    rw[ew]at ev';cases ev'
    obtain⟨s',hs',ea'⟩:=slotArg j a hao
    rw[hs]at hs';cases hs'
    have am:a.m=.par:=by rw[ea',if_pos hm]
    obtain⟨a2,w2,h1,h2,h3,h4⟩:=po.rel k' a ha (by rw[am];rfl)
    rw[hv']at h3;cases h3
    have ht:t=⟨s.m,a2.d⟩:=by
     rw[iZ,Nat.zero_add,hs]at ej
     have ej':kW rs as' j (some s)=some t:=Option.some.inj ej
     unfold kW at ej'
     dsimp only at ej'
     split at ej'
     ·rename_i b hb
      obtain⟨k2,q1,q2⟩:=fX hb
      obtain rfl:=lM hc k2 k' j q1 hk'
      rw[h1]at q2;cases q2
      have:=Option.some.inj ej'
      rw[if_pos hm]at this
      exact this.symm
     ·rename_i hb
      -- no argument at all: the lists part in length
      exfalso
      have:∀ {rs:List Res} {as:List Sl} {kk:Nat} {a:Sl},rs[kk]? = some (.slot j)->as[kk]? = some a->iY j rs as≠none:=by
       intro rs
       induction rs with
       | nil=>intro as kk a h;simp at h
       | cons r rs ih=>
         intro as kk a h h'
         cases as with
         | nil=>simp at h'
         | cons b as=>
           cases kk with
           | zero=>simp at h;subst h;simp[iY]
           | succ kk=>
             have:=ih (as:=as) (kk:=kk) (a:=a) (by simpa using h) (by simpa using h')
             cases r with
             | slot i=>simp only[iY];split;exact fun z=>nomatch z;exact this
             | val d=>exact this
             | own d=>exact this
      exact this hk' h1 hb
    subst ht
    have h5:=(cU (s:=a2) (by rw[h2,am];exact fun z=>nomatch z)).mp h4
    exact(cU (s:=⟨s.m,a2.d⟩) (gO hm)).mpr h5
   ·have ht:t=s:=by
     rcases hc' with h | ⟨hm,k',a,h1,_⟩
     ·exact h
     ·exact absurd ⟨hm,k',h1⟩ hslot
    rw[ht]
    refine rw'.mono extA fun p o ep m hp=>po.fr p o hp ?_
    exact quiet j s t p hs ej ht m (by rw[ew,ep]) fun k' hm hk=>hslot ⟨hm,k',hk⟩
  ·obtain⟨s,hs,mm,_⟩:=back j t ej
   obtain⟨s',hs',mm',_⟩:=back l t' el
   exact ok1.dis j l s s' q n hs hs' (by rw[← mm];exact m) (by rw[← mm'];exact m') eq eq'
  ·obtain⟨s,hs,mm,_⟩:=back j t ej
   exact ok1.own j s q hs (mm.symm.trans m) eq
  ·obtain⟨s,hs,mm,_⟩:=back j t ej
   exact ok1.par j s q hs (mm.symm.trans m) eq
  ·refine po.fr a o (ok1.keep a o e n) fun z=>?_
   rcases mutArg a z with⟨j,s,hs,m,ev⟩ | ⟨_,_,z0⟩
   ·cases hq:s.m with
    | own=>rw[ok1.own j s a hs hq ev]at e;cases e
    | par=>exact n (ok1.par j s a hs hq ev)
    | val=>rw[hq]at m;cases m
    | lent=>rw[hq]at m;cases m
   ·rw[z0]at e;cases e
 have stB:Step σ σV H (iL rs as' 0 σ1) σV H2:=by
  refine⟨fun a o e n=>?_,fun a e=>st1.dom a (po.dom a e),fun a ⟨j,t,ej,m,ea⟩=>?_,fun a ⟨j,t,ej,m,ea⟩=>?_,fun j t ej=>?_,fun j t ej m=>?_,fun j t ej m=>?_⟩
  ·refine po.fr a o (st1.fr a o e n) fun z=>?_
   rcases mutArg a z with y | ⟨y,_⟩
   ·rcases st1.mu a y with y | y
    ·exact n y
    ·rw[e]at y;cases y
   ·rw[e]at y;cases y
  ·obtain⟨s,hs,mm,_⟩:=back j t ej
   exact st1.mu a ⟨j,s,hs,by rw[← mm];exact m,ea⟩
  ·obtain⟨s,hs,mm,_⟩:=back j t ej
   exact st1.nv a ⟨j,s,hs,by rw[← mm];exact m,ea⟩
  ·obtain⟨s,hs⟩:=st1.kp j t ej
   obtain⟨t',h1,_⟩:=fwd j s hs
   exact⟨t',h1⟩
  ·obtain⟨s,hs,q1,q2,q3⟩:=st1.fix j t ej m
   obtain⟨t',h1,h2,h3⟩:=fwd j s hs
   refine⟨t',h1,h2.trans q1,fun z=>?_,q3⟩
   rw[h3 (by rw[q1,z];rfl)];exact q2 z
  ·obtain⟨s,hs,mm,_⟩:=back j t ej
   exact st1.lt j s hs (mm.symm.trans m)
 refine⟨okB,?_,stB,nw.frh.back st1⟩
 cases r with
 | val d=>exact nw
 | own d=>
   obtain⟨p,q1,q2,q3⟩:=nw
   refine⟨p,q1,q3,fun⟨j,t,ej,m,ea⟩=>?_,ok1.dom p q2⟩
   obtain⟨s,hs,mm,_⟩:=back j t ej
   obtain⟨o,ho,_⟩:=ok1.mutObj ⟨j,s,hs,by rw[← mm];exact m,ea⟩
   rw[q2]at ho;cases ho
 | slot i=>exact nw.elim
theorem aJ8{Γ:Gm}{n:Nat}{run:Run}{ra:DA}{E:XK}{σV:St}{H:Hp}{Q:VK}(h:dTE Γ (aX n run ra) σV H Q):zR (dsp n run) [] E (dTA Γ ra) σV H Q:=by
 obtain⟨σ,ok,res,σ',e,k⟩:=h
 obtain⟨⟨rs,σ1⟩,e1,e⟩:=aD e
 obtain⟨as,e2,e⟩:=aD e
 dsimp only at e
 split at e
 case isFalse=>cases e
 case isTrue hc=>
 obtain⟨⟨r,as'⟩,e3,e⟩:=aD e
 cases e
 dsimp only at e2 hc k
 refine⟨σ,ok,rs,σ1,e1,fun vs H1 ok1 r1 st1 f1=>?_⟩
 show dsp n run (vs++[]) H1 Q E
 rw[List.append_nil]
 obtain⟨ao,c⟩:=sU e2 hc.2 ok1 r1 st1 f1
 refine⟨as,r,as',ao,hc.1,e3,fun v H2 po nw=>?_⟩
 obtain⟨q1,q2,q3,q4⟩:=c r as' v H2 po nw
 exact k v H2 q1 q2 q3 q4
theorem aQ{X:Cx}{e:Expr}{n:Nat}{run:Run}{ra:DA}{E:XK}(h:∀ Γ,PE X e (zR (dsp n run) [] E (dTA Γ ra))):GE X e (aX n run ra):=.mk fun Γ=>peW (h Γ) fun _ _ _=>aJ8
section
variable{X:Cx}
noncomputable def pB(i j:Int):Prop:=cA5 i j\/(PySem.Builtin.Int.intBits i<=2 ^ 20/\PySem.Builtin.Int.intBits j<=2 ^ 20)
theorem pB.ok{i j:Int}(h:pB i j):IntMulOk i j:=by
 rcases h with h | h
 ·exact h.ok
 ·exact IntMulOk.of_bits h.1 h.2
theorem bR1:OpR X (binaryOp .Mult) (rI pB fun i j=>.int (i*j)):=opI fun _ _ _ _ _ _ _ hc q=>PyProof.Rows.mul_int q hc.ok
end
noncomputable section
open Classical
noncomputable def ii(f:Int->Int->D):F2:=fun d e=>match d,e with
 | .int i,.int j=>some (.val (f i j))
 | _,_=>none
noncomputable def iiC(C:Int->Int->Prop)(f:Int->Int->D):F2:=fun d e=>match d,e with
 | .int i,.int j=>if C i j then some (.val (f i j))else none
 | _,_=>none
noncomputable def iu(f:Int->D):F1:=fun d=>match d with
 | .int i=>some (.val (f i))
 | _=>none
end
theorem yP{g:Int->Int->V}{f:Int->Int->D}(h:∀ H i j,Rp H (f i j) (g i j)):pA (rI0 g) (ii f):=by
 intro H d1 d2 x y Q res v1 v2 e k
 unfold ii at e
 split at e
 ·cases e
  obtain rfl:=cR v1
  obtain rfl:=cR v2
  exact⟨_,_,rfl,rfl,k _ H (.refl _) (h H _ _)⟩
 ·cases e
theorem vF{C:Int->Int->Prop}{g:Int->Int->V}{f:Int->Int->D}(h:∀ H i j,Rp H (f i j) (g i j)):pA (rI C g) (iiC C f):=by
 intro H d1 d2 x y Q res v1 v2 e k
 unfold iiC at e
 split at e
 ·split at e
  ·rename_i hc
   cases e
   obtain rfl:=cR v1
   obtain rfl:=cR v2
   exact⟨_,_,rfl,rfl,hc,k _ H (.refl _) (h H _ _)⟩
  ·cases e
 ·cases e
theorem cF6{g:Int->V}{f:Int->D}(h:∀ H i,Rp H (f i) (g i)):bX1 (rU g) (iu f):=by
 intro H d x Q res v1 e k
 unfold iu at e
 split at e
 ·cases e
  obtain rfl:=cR v1
  exact⟨_,rfl,k _ H (.refl _) (h H _)⟩
 ·cases e
noncomputable def cF7:F2:=ii fun i j=>.int (i-j)
noncomputable def aC9:F2:=iiC (fun _ j=>0 < j) fun i j=>.int (i % j)
noncomputable def cP6:F2:=iiC bW9 fun i j=>.int (i ^ j.toNat)
noncomputable def ltI:F2:=ii fun i j=>.bl (decide (i < j))
noncomputable def leI:F2:=ii fun i j=>.bl (decide (i<=j))
noncomputable def gtI:F2:=ii fun i j=>.bl (decide (j < i))
noncomputable def geI:F2:=ii fun i j=>.bl (decide (j<=i))
noncomputable def cM3:F1:=iu fun i=>.int (-i)
theorem aJ9:pA (rI0 fun i j=>.int (i-j)) cF7:=yP fun _ _ _=>.int _
theorem gQ:pA (rI (fun _ j=>0 < j) fun i j=>.int (i % j)) aC9:=vF fun _ _ _=>.int _
theorem bR2:pA (rI bW9 fun i j=>.int (i ^ j.toNat)) cP6:=vF fun _ _ _=>.int _
theorem bR3:pA (rI0 fun i j=>.bl (decide (i < j))) ltI:=yP fun _ _ _=>.bl _
theorem lN:pA (rI0 fun i j=>.bl (decide (j < i))) gtI:=yP fun _ _ _=>.bl _
theorem bR4:pA (rI0 fun i j=>.bl (decide (j<=i))) geI:=yP fun _ _ _=>.bl _
theorem bR5:bX1 (rU fun i=>.int (-i)) cM3:=cF6 fun _ _=>.int _
section
variable{X:Cx}{pins:List (Addr×Obj)}{σ:St}{H:Hp}{s:Shared}{l:Addr}{xs:List V}
theorem rA(I:Inv X pins σ H s)(h:fP H l=some (true,xs)):xs.length<=sizeLine/\∃ (its:List Value) (n:Nat),cO xs its/\xs.length=its.length/\s.heap.get? l=some {cls:=.type "list",data:=.seq its.toArray n}:=by
 unfold fP at h
 split at h
 ·rename_i e
  cases h
  exact I.lstM e
 ·cases h
 ·rename_i o ys e
  cases h
  obtain⟨_,z,its,n,r,e⟩:=I.hok l _ e
  exact⟨z,its,n,r,r.length,e⟩
 ·cases h
end
noncomputable def cF8:R2:=fun x y H Q=>∃ l b xs zs,x=.ref l/\y=.ref b/\fP H l=some (true,xs)/\fP H b=some (true,zs)/\xs.length+zs.length<=sizeLine/\∀ p,H p=none->Q (.ref p) (upd H p (.lst (xs++zs)))
theorem bR6{X:Cx}:OpR X (binaryOp .Add) cF8:=by
 intro pins s σ H x y v u Q I rx ry h
 obtain⟨l,b,xs,zs,rfl,rfl,hH,hB,hz,q⟩:=h
 cases rx
 cases ry
 obtain⟨z,its,n,r,hl,e⟩:=rA I hH
 obtain⟨z2,its2,n2,r2,hl2,e2⟩:=rA I hB
 refine PySem.P.add_list e e2 ?_ (by rw[List.size_toArray,List.size_toArray];omega)
 have ea:its.toArray++its2.toArray=(its++its2).toArray:=by simp
 rw[ea]
 exact⟨.ref _,_,I.lnew (t':=s.toks) (r.append r2) (by rw[List.length_append];omega),rfl,q _ I.fresh⟩
noncomputable def cF9:R2:=fun x y H Q=>bC7 x y H Q\/cF8 x y H Q
theorem bC{X:Cx}:OpR X (binaryOp .Add) cF9:=yB.or bR6
noncomputable def gD:F2:=fun d e=>match d,e with
 | .int i,.int j=>some (.val (.int (i+j)))
 | .str a,.str b=>if a.length+b.length<=sizeLine then some (.val (.str (a++b)))else none
 | .lst l,.lst m=>if l.length+m.length<=sizeLine then some (.own (.lst (l++m)))else none
 | .tup l,.tup m=>if l.length+m.length<=sizeLine then some (.val (.tup (l++m)))else none
 | _,_=>none
theorem nS{H:Hp}{p:Addr}{xs:List V}{l:List D}(hp:H p=none)(r:Rps H l xs):uY H (upd H p (.lst xs)) (.own (.lst l)) (.ref p):=⟨p,rfl,hp,xs,aT,r.mono (.same (bV hp))⟩
theorem vG{H:Hp}{p:Addr}{xs:List V}{l:List D}(hp:H p=none)(r:Rps H l xs):uY H (upd H p (.tup xs)) (.val (.tup l)) (.ref p):=.tup aT (r.mono (.same (bV hp)))
theorem bD:pA cF9 gD:=by
 intro H d1 d2 x y Q res v1 v2 e k
 unfold gD at e
 split at e
 ·cases e
  obtain rfl:=cR v1
  obtain rfl:=cR v2
  exact .inl (k _ H (.refl _) (.int _))
 ·split at e
  ·rename_i hl
   cases e
   obtain rfl:=jN v1
   obtain rfl:=jN v2
   exact .inl ⟨hl,k _ H (.refl _) (.str _)⟩
  ·cases e
 ·split at e
  ·rename_i l m hl
   cases e
   obtain⟨p,xs,rfl,h1,r1⟩:=gK v1
   obtain⟨q,ys,rfl,h2,r2⟩:=gK v2
   have:=r1.length
   have:=r2.length
   exact .inr ⟨p,q,xs,ys,rfl,rfl,h1,h2,by omega,fun r hr=>k _ _ (bV hr) (nS hr (r1.append r2))⟩
  ·cases e
 ·split at e
  ·rename_i l m hl
   cases e
   obtain⟨p,xs,rfl,h1,r1⟩:=gB v1
   obtain⟨q,ys,rfl,h2,r2⟩:=gB v2
   have e1:=r1.length
   have e2:=r2.length
   refine .inl (.inr ⟨xs,ys,dI h1,dI h2,by omega,fun hx=>?_,fun hx hy=>?_,fun hx hy r hr=>k _ _ (bV hr) (vG hr (r1.append r2))⟩)
   ·subst hx
    have:l=[]:=List.eq_nil_of_length_eq_zero e1
    subst this
    exact k _ H (.refl _) (.tup h2 r2)
   ·subst hy
    have:m=[]:=List.eq_nil_of_length_eq_zero e2
    subst this
    rw[List.append_nil]at k
    exact k _ H (.refl _) (.tup h1 r1)
  ·cases e
 ·cases e
noncomputable section
open Classical
noncomputable def vH:F2:=fun d e=>match d,e with
 | .int i,.int j=>if pB i j then some (.val (.int (i*j)))else none
 | .str z,.int i=>if z.length<=1000/\0<=i/\i<=1000 then some (.val (.str (PySem.Txt.mul z i)))else none
 | _,_=>none
end
noncomputable def cG0:R2:=fun x y H Q=>rI pB (fun i j=>.int (i*j)) x y H Q\/bP2 x y H Q
theorem gR{X:Cx}:OpR X (binaryOp .Mult) cG0:=bR1.or cE0
theorem gS:pA cG0 vH:=by
 intro H d1 d2 x y Q res v1 v2 e k
 unfold vH at e
 split at e
 ·split at e
  ·rename_i hc
   cases e
   obtain rfl:=cR v1
   obtain rfl:=cR v2
   exact .inl ⟨_,_,rfl,rfl,hc,k _ H (.refl _) (.int _)⟩
  ·cases e
 ·split at e
  ·rename_i hc
   cases e
   obtain rfl:=jN v1
   obtain rfl:=cR v2
   exact .inr ⟨hc.1,hc.2.1,hc.2.2,fun y _ e=>by subst e;exact k _ H (.refl _) (.str _)⟩
  ·cases e
 ·cases e
noncomputable def ixD:F2:=fun d e=>match d,e with
 | .lst l,.int i=>(atI l i).map .val
 | .tup l,.int i=>(atI l i).map .val
 | .str z,.int i=>if z.length<=sizeLine then(atI z.cps.toList i).map fun c=>.val (.str ⟨#[c]⟩)else none
 | _,_=>none
theorem Rps.atI{H:Hp}{l:List D}{xs:List V}{i:Int}{d:D}(r:Rps H l xs)(h:L2.atI l i=some d):∃ x,L2.atI xs i=some x/\Rp H d x:=by
 unfold L2.atI at h ⊢
 obtain⟨j,e1,e2⟩:=aD h
 rw[← r.length,e1]
 exact r.get e2
theorem cG1:pA cR9 ixD:=by
 intro H d1 d2 x y Q res v1 v2 e k
 unfold ixD at e
 split at e
 ·obtain rfl:=cR v2
  obtain⟨p,xs,rfl,h1,r1⟩:=gK v1
  obtain⟨d,e1,e2⟩:=Option.map_eq_some_iff.mp e
  cases e2
  obtain⟨x,e3,r⟩:=r1.atI e1
  exact⟨x,aH1 h1 e3,k _ H (.refl _) r⟩
 ·obtain rfl:=cR v2
  obtain⟨p,xs,rfl,h1,r1⟩:=gB v1
  obtain⟨d,e1,e2⟩:=Option.map_eq_some_iff.mp e
  cases e2
  obtain⟨x,e3,r⟩:=r1.atI e1
  exact⟨x,aH1 (dI h1) e3,k _ H (.refl _) r⟩
 ·split at e
  ·rename_i hz
   obtain rfl:=cR v2
   obtain rfl:=jN v1
   obtain⟨c,e1,e2⟩:=Option.map_eq_some_iff.mp e
   cases e2
   exact⟨_,bO7 hz e1,k _ H (.refl _) (.str _)⟩
  ·cases e
 ·cases e
theorem eC{X:Cx}{a b:Expr}{ra rb:DE}{pos:Pos}(ha:GE X a ra)(hb:GE X b rb)(hs:aF3 b):GE X (.Subscript a b pos) (aV ixD ra rb):=.mk fun Γ=>peW (cO2 cU3 (ha.to Γ) (hb.to Γ) hs) fun _ _ _=>kP cG1
noncomputable def iR:FN:=fun ds=>match ds with
 | [.lst l]=>some (.val (.int l.length))
 | [.tup l]=>some (.val (.int l.length))
 | [.str z]=>if z.length<=sizeLine then some (.val (.int z.length))else none
 | _=>none
theorem aA2{H:Hp}{d:D}{vs:List V}(h:Vws H [d] vs):∃ x,vs=[x]/\Vw H d x:=by
 cases h with
 | cons a t=>cases t;exact⟨_,rfl,a⟩
theorem cS5{H:Hp}{d e:D}{vs:List V}(h:Vws H [d,e] vs):∃ x y,vs=[x,y]/\Vw H d x/\Vw H e y:=by
 cases h with
 | cons a t=>
   obtain⟨y,rfl,b⟩:=aA2 t
   exact⟨_,_,rfl,a,b⟩
theorem cE:bA0 bC0 iR:=by
 intro H ds vs Q res vw e k
 unfold iR at e
 split at e
 ·cases e
  obtain⟨x,rfl,v⟩:=aA2 vw
  obtain⟨p,xs,rfl,h1,r1⟩:=gK v
  refine⟨_,_,rfl,qQ h1,?_⟩
  rw[← r1.length]
  exact k _ H (.refl _) (.int _)
 ·cases e
  obtain⟨x,rfl,v⟩:=aA2 vw
  obtain⟨p,xs,rfl,h1,r1⟩:=gB v
  refine⟨_,_,rfl,qQ (dI h1),?_⟩
  rw[← r1.length]
  exact k _ H (.refl _) (.int _)
 ·split at e
  ·rename_i hz
   cases e
   obtain⟨x,rfl,v⟩:=aA2 vw
   obtain rfl:=jN v
   exact⟨_,_,rfl,bC3 hz,k _ H (.refl _) (.int _)⟩
  ·cases e
 ·cases e
noncomputable def sV(l:List D)(lo hi:Option Int):List D:=(l.drop (HT.sIx l.length 0 lo)).take (HT.sIx l.length l.length hi-HT.sIx l.length 0 lo)
theorem Rps.cut{H:Hp}{l:List D}{xs:List V}(r:Rps H l xs)(lo hi:Option Int):Rps H (sV l lo hi) (uJ xs lo hi):=by
 unfold sV uJ
 rw[r.length]
 exact(r.drop _).take _
theorem aK0{xs:List V}{lo hi:Option Int}(h:HT.sIx xs.length 0 lo=0/\HT.sIx xs.length xs.length hi=xs.length):uJ xs lo hi=xs:=by
 unfold uJ
 rw[h.1,h.2]
 simp
end Dv
namespace HT
open PySem PySem.Spec PyProof.Rows
section
variable{prog:Program}{w:World}{A:Around}{E:Value->Shared->Prop}{s:Shared}
theorem getItem_tuple_all{t sl:Addr}{items:Array Value}{vl vu:Value}{lo hi:Option Int}{Q:Value->Shared->Prop}(ht:IsTup s.heap t items)(hs:s.heap.IsSliceOf sl vl vu .none)(pl:IsPart vl lo)(pu:IsPart vu hi)
  (hw:sIx items.size 0 lo=0/\sIx items.size items.size hi=items.size) (h:Q (.ref t) s):wpAny (model prog w) A (getItem (.ref t) (.ref sl)) Q E s:=by
 obtain⟨os,hos,hcs,hds⟩:=id hs
 have hTs:s.TypeIs (.ref sl) "slice":=⟨os,hos,hcs⟩
 unfold getItem
 try with_reducible refine wpAny_holding ?_
 first | refine wpAny_bind (wpAny_pure ?_) | skip
 refine wpAny_bind (wpAny_sequenceKey ht.typeIs (by decide) ?_)
 refine wpAny_bind (wpAny_callSpecial?_slot (name:=Str.ofString "__getitem__") ht.typeIs PyProof.Rows.slot_tuple_getitem
  (wpAny_call_entry PyProof.Rows.slot_tuple_getitem ht.typeIs entry_tuple_getitem ?_ (args_tuple_getitem _ _)))
 show wpAny _ _ (Builtin.Tuple.tupleItemsOf (.ref t) >>= _) _ _ s
 refine wpAny_bind (tupleItemsOf_ ht ?_)
 refine wpAny_bind (wpAny_typeOf hTs ?_)
 rw[if_pos (by decide)]
 refine wpAny_bind (iN hs pl pu ?_)
 have hyes:(((sIx items.size 0 lo:Nat):Int)==0&&(1:Int)==1&&(sIx items.size items.size hi-sIx items.size 0 lo)==items.size)=true:=by
  rw[hw.1,hw.2];simp
 show wpAny _ _ (if(((sIx items.size 0 lo:Nat):Int)==0&&(1:Int)==1&&(sIx items.size items.size hi-sIx items.size 0 lo)==items.size)=true then _ else _) _ _ s
 rw[if_pos hyes]
 refine wpAny_bind ?_
 unfold Builtin.Tuple.tupleIsExact
 refine wpAny_bind (wpAny_typeOf ht.typeIs (wpAny_pure ?_))
 rw[if_pos (by decide)]
 refine wpAny_bind (wpAny_rule ?_)
 exact wpAny_pure ⟨_,rfl,wpAny_pure h⟩
end
end HT
namespace Dv
open PySem L2
noncomputable def cS6:V->Option Int->Option Int->Hp->VK->Prop:=fun x lo hi H Q=>match x with
 | .str z=>z.length<=sizeLine/\Q (.str (PySem.Txt.slice z lo hi)) H
 | .ref p=>(∃ xs,fP H p=some (true,xs)/\∀ r,H r=none->Q (.ref r) (upd H r (.lst (uJ xs lo hi)))) \/
   ∃ xs,fP H p=some (false,xs)/\(uJ xs lo hi=xs->Q (.ref p) H)/\∀ r,H r=none->Q (.ref r) (upd H r (.tup (uJ xs lo hi)))
 | _=>False
theorem cU9{X:Cx}:SlR X cS6:=by
 intro pins s σ H x v vl vu lo hi sl Q I rx hs pl pu h
 unfold cS6 at h
 split at h
 ·rename_i z
  exact cO7 pins s σ H _ v vl vu lo hi sl Q I rx hs pl pu h
 ·rename_i p
  rcases h with h | ⟨xs,hq,q1,q2⟩
  ·exact cO7 pins s σ H _ v vl vu lo hi sl Q I rx hs pl pu (.inl h)
  ·by_cases hw:HT.sIx xs.length 0 lo=0/\HT.sIx xs.length xs.length hi=xs.length
   ·cases rx
    obtain⟨its,r,ht,hz⟩:=I.tuple (eK hq)
    have hlen:its.toArray.size=xs.length:=by rw[List.size_toArray];exact r.length.symm
    refine⟨"tuple",_,PyProof.Rows.slot_tuple_getitem.lookup,ht.typeIs,?_⟩
    exact HT.getItem_tuple_all ht hs pl pu (by rw[hlen];exact hw) ⟨.ref p,H,I,rfl,q1 (aK0 hw)⟩
   ·exact cO7 pins s σ H _ v vl vu lo hi sl Q I rx hs pl pu (.inr ⟨xs,hq,hw,q2⟩)
 ·exact h.elim
noncomputable abbrev DO:=Sg->Option (Option Int×Sg)
noncomputable def dTO(Γ:Gm)(r:DO):TO:=fun σV H Q=>∃ σ,StOk Γ H σ σV/\∃ o σ',r σ=some (o,σ')/\∀ H',StOk Γ H' σ' σV->Step σ σV H σ' σV H'->Q o H'
structure GO(X:Cx)(e:Option Expr)(r:DO):Prop where
 to:∀ Γ,PO X e (dTO Γ r)
theorem poW{X:Cx}{e:Option Expr}{t t':TO}(h:PO X e t)(w:∀ σ H Q,t' σ H Q->t σ H Q):PO X e t':=fun pins s σ H Q I q=>h pins s σ H Q I (w σ H Q q)
noncomputable def oZ:DO:=fun σ=>some (none,σ)
noncomputable def dP(r:DE):DO:=fun σ=>(r σ).bind fun x=>(rd x.2 x.1).bind fun d=>match d with
 | .int i=>some (some i,x.2)
 | _=>none
theorem dY{X:Cx}:GO X none oZ:=.mk fun Γ=>poW bN4 fun σV H Q ⟨σ,ok,o,σ',e,k⟩=>by cases e;exact k H ok .refl
theorem dZ{X:Cx}{e:Expr}{r:DE}(h:GE X e r):GO X (some e) (dP r):=.mk fun Γ=>poW (bN5 (h.to Γ)) fun σV H Q ⟨σ,ok,o,σ',e,k⟩=>by
 obtain⟨⟨x,σ1⟩,e1,e⟩:=aD e
 obtain⟨d,e2,e⟩:=aD e
 dsimp only at e
 split at e
 ·cases e
  exact⟨σ,ok,x,_,e1,fun v H1 ok1 r1 st1 _=>⟨_,cR (r1.vw ok1 e2),k H1 ok1 st1⟩⟩
 ·cases e
noncomputable def slD(d:D)(lo hi:Option Int):Option Res:=match d with
 | .str z=>if z.length<=sizeLine then some (.val (.str (PySem.Txt.slice z lo hi)))else none
 | .lst l=>some (.own (.lst (sV l lo hi)))
 | .tup l=>some (.val (.tup (sV l lo hi)))
 | _=>none
noncomputable def dSl(r:DE)(a b:DO):DE:=fun σ=>(r σ).bind fun x=>(a x.2).bind fun y=>(b y.2).bind fun z=>(rd z.2 x.1).bind fun d=>(slD d y.1 z.1).bind fun w=>some (w,z.2)
theorem cW{X:Cx}{e:Expr}{lo hi:Option Expr}{p2 pos:Pos}{r:DE}{a b:DO}(he:GE X e r)(ha:GO X lo a)(hb:GO X hi b):GE X (.Subscript e (.Slice lo hi none p2) pos) (dSl r a b):=.mk fun Γ=>peW (bB3 cU9 (he.to Γ) (ha.to Γ) (hb.to Γ)) fun σV H Q ⟨σ,ok,res,σ',e,k⟩=>by
 obtain⟨⟨x,σ1⟩,e1,e⟩:=aD e
 obtain⟨⟨lo,σ2⟩,e2,e⟩:=aD e
 obtain⟨⟨hi,σ3⟩,e3,e⟩:=aD e
 obtain⟨d,e4,e⟩:=aD e
 obtain⟨w,e5,e⟩:=aD e
 cases e
 refine⟨σ,ok,x,σ1,e1,fun v H1 ok1 r1 st1 _=>⟨σ1,ok1,lo,σ2,e2,fun H2 ok2 st2=>⟨σ2,ok2,hi,σ3,e3,fun H3 ok3 st3=>?_⟩⟩⟩
 have vw:=((r1.step ok1 st2).step ok2 st3).vw ok3 e4
 have fin:∀ v H',uN H3 H'->uY H3 H' res v->Q v H':=fun v H' sm nw=>k v H' (ok3.same sm) (nw.res ok3) (((st1.trans st2).trans st3).trans (.same sm)) (nw.frh.back ((st1.trans st2).trans st3))
 dsimp only at e5
 unfold slD at e5
 split at e5
 ·split at e5
  ·rename_i hz
   cases e5
   obtain rfl:=jN vw
   exact⟨hz,fin _ H3 (.refl _) (.str _)⟩
  ·cases e5
 ·cases e5
  obtain⟨p,xs,rfl,h1,r2⟩:=gK vw
  exact .inl ⟨xs,h1,fun q hq=>fin _ _ (bV hq) (nS hq (r2.cut lo hi))⟩
 ·cases e5
  obtain⟨p,xs,rfl,h1,r2⟩:=gB vw
  refine .inr ⟨xs,dI h1,fun hw=>fin _ H3 (.refl _) ?_,fun q hq=>fin _ _ (bV hq) (vG hq (r2.cut lo hi))⟩
  have:=r2.cut lo hi
  rw[hw]at this
  exact .tup h1 this
 ·cases e5
noncomputable def cG2(K:PySem.W.Frag):List V->Hp->VK->Prop:=fun xs H Q=>∃ (a:Addr) (bs:List Bool),xs=[.ref a]/\SqL K H a (bs.map V.bl)/\Q (.bl (bs.all id)) H
noncomputable def aA3:List D->Option (List Bool)
 | []=>some []
 | .bl b::r=>(aA3 r).bind fun bs=>some (b::bs)
 | _=>none
theorem yQ:∀ {l:List D} {bs:List Bool},aA3 l=some bs->l=bs.map D.bl
 | [],_,h=>by cases h;rfl
 | .bl b::r,_,h=>by
   obtain⟨bs,e1,e⟩:=aD h
   cases e
   rw[yQ e1];rfl
 | .non::_,_,h=>by cases h
 | .int _::_,_,h=>by cases h
 | .str _::_,_,h=>by cases h
 | .tup _::_,_,h=>by cases h
 | .lst _::_,_,h=>by cases h
 | .dic _ _::_,_,h=>by cases h
theorem aK1(bs:List Bool):aA3 (bs.map D.bl)=some bs:=by
 induction bs with
 | nil=>rfl
 | cons b r ih=>show(aA3 (r.map D.bl)).bind _=_;rw[ih];rfl
noncomputable def cG3:FN:=fun ds=>match ds with
 | [.lst l]=>(aA3 l).map fun bs=>.val (.bl (bs.all id))
 | _=>none
theorem aK2{K:PySem.W.Frag}:bA0 (cG2 K) cG3:=by
 intro H ds vs Q res vw e k
 unfold cG3 at e
 split at e
 ·obtain⟨bs,e1,e2⟩:=Option.map_eq_some_iff.mp e
  cases e2
  obtain⟨x,rfl,v⟩:=aA2 vw
  obtain⟨p,xs,rfl,h1,r1⟩:=gK v
  rw[yQ e1]at r1
  rw[r1.bls_inv]at h1
  exact⟨p,bs,rfl,fD h1,k _ H (.refl _) (.bl _)⟩
 ·cases e
theorem sW{X:Cx}(K:PySem.W.Frag)(hK:X.K=K)(hc:X.calm=true):iT X (.builtin "all") (cG2 K):=by rw[← hK];exact bB7 hc
noncomputable def aK3:FN:=fun ds=>match ds with
 | [.int i,.int j]=>some (.val (.int (if j > i then j else i)))
 | _=>none
noncomputable def aA4:FN:=fun ds=>match ds with
 | [.int i,.int j]=>some (.val (.int (if j < i then j else i)))
 | _=>none
theorem bD5:bA0 (fun xs H Q=>∃ i j,xs=[.int i,.int j]/\Q (.int (if j > i then j else i)) H) aK3:=by
 intro H ds vs Q res vw e k
 unfold aK3 at e
 split at e
 ·cases e
  obtain⟨x,y,rfl,a,b⟩:=cS5 vw
  obtain rfl:=cR a
  obtain rfl:=cR b
  exact⟨_,_,rfl,k _ H (.refl _) (.int _)⟩
 ·cases e
theorem yR:bA0 (fun xs H Q=>∃ i j,xs=[.int i,.int j]/\Q (.int (if j < i then j else i)) H) aA4:=by
 intro H ds vs Q res vw e k
 unfold aA4 at e
 split at e
 ·cases e
  obtain⟨x,y,rfl,a,b⟩:=cS5 vw
  obtain rfl:=cR a
  obtain rfl:=cR b
  exact⟨_,_,rfl,k _ H (.refl _) (.int _)⟩
 ·cases e
noncomputable def bK6:FN:=fun ds=>match ds with
 | [.int i]=>some (.val (.int i))
 | [.bl b]=>some (.val (.int (if b then 1 else 0)))
 | _=>none
theorem vI:bA0 (fun xs H Q=>(∃ i,xs=[.int i]/\Q (.int i) H)\/∃ k,xs=[.bl k]/\Q (.int (if k then 1 else 0)) H) bK6:=by
 intro H ds vs Q res vw e k
 unfold bK6 at e
 split at e
 ·cases e
  obtain⟨x,rfl,a⟩:=aA2 vw
  obtain rfl:=cR a
  exact .inl ⟨_,rfl,k _ H (.refl _) (.int _)⟩
 ·cases e
  obtain⟨x,rfl,a⟩:=aA2 vw
  obtain rfl:=aA0 a
  exact .inr ⟨_,rfl,k _ H (.refl _) (.int _)⟩
 ·cases e
noncomputable def lO:FN:=fun ds=>match ds with
 | [.lst l]=>some (.own (.lst l))
 | [.tup l]=>some (.own (.lst l))
 | _=>none
theorem jJ:bA0 bJ9 lO:=by
 intro H ds vs Q res vw e k
 unfold lO at e
 split at e
 ·cases e
  obtain⟨x,rfl,a⟩:=aA2 vw
  obtain⟨p,xs,rfl,h1,r1⟩:=gK a
  exact⟨p,true,xs,rfl,h1,fun q hq=>k _ _ (bV hq) (nS hq r1)⟩
 ·cases e
  obtain⟨x,rfl,a⟩:=aA2 vw
  obtain⟨p,xs,rfl,h1,r1⟩:=gB a
  exact⟨p,false,xs,rfl,dI h1,fun q hq=>k _ _ (bV hq) (nS hq r1)⟩
 ·cases e
noncomputable def bA5:FN:=fun ds=>match ds with
 | [.lst l]=>some (.val (.tup l))
 | [.tup l]=>some (.val (.tup l))
 | _=>none
theorem rB:bA0 cD9 bA5:=by
 intro H ds vs Q res vw e k
 unfold bA5 at e
 split at e
 ·cases e
  obtain⟨x,rfl,a⟩:=aA2 vw
  obtain⟨p,xs,rfl,h1,r1⟩:=gK a
  exact⟨p,true,xs,rfl,h1,fun q hq=>k _ _ (bV hq) (vG hq r1)⟩
 ·cases e
  obtain⟨x,rfl,a⟩:=aA2 vw
  obtain⟨p,xs,rfl,h1,r1⟩:=gB a
  exact⟨p,false,xs,rfl,dI h1,k _ H (.refl _) (.tup h1 r1)⟩
 ·cases e
noncomputable def cP7:D->String
 | .non=>"NoneType"
 | .bl _=>"bool"
 | .int _=>"int"
 | .str _=>"str"
 | .lst _=>"list"
 | .tup _=>"tuple"
 | .dic _ _=>"dict"
noncomputable def cG4(c:String):F1:=fun d=>match d with
 | .dic _ _=>none
 | d=>some (.val (.bl (nJ (cP7 d) c)))
noncomputable def aA5:FM:=fun d ds=>match d,ds with
 | .lst l,[e]=>if l.length < sizeLine then some (.lst (l++[e]),.non)else none
 | _,_=>none
theorem jZ{H:Hp}{l:List D}{p:Addr}(h:dR H (.lst l) p):∃ xs,H p=some (.lst xs)/\Rps H l xs:=h
theorem lP:cP4 aF5 aA5:=by
 intro H d p ds vs Q d' e ow r eq k
 unfold aA5 at eq
 split at eq
 ·split at eq
  ·rename_i l x hl
   cases eq
   obtain⟨xs,h1,h2⟩:=jZ ow
   cases r with
   | cons a t=>
     cases t
     exact⟨p,xs,_,rfl,rfl,h1,by rw[← h2.length];exact hl,k _ _ ⟨_,aT,(h2.append (.cons a .nil)).mono (dR.ext ow)⟩ .non⟩
  ·cases eq
 ·cases eq
noncomputable def bD6:FM:=fun d ds=>match d,ds with
 | .lst l,[.lst m]=>if l.length+m.length<=sizeLine then some (.lst (l++m),.non)else none
 | _,_=>none
noncomputable def cG5:V->List V->Hp->VK->Prop:=fun x vs H Q=>∃ l b xs zs,x=.ref l/\vs=[.ref b]/\H l=some (.lst xs)/\fP H b=some (true,zs)/\xs.length+zs.length<=sizeLine/\Q .non (upd H l (.lst (xs++zs)))
theorem vJ{X:Cx}:MtM X "list.extend" cG5:=by
 intro pins s σ H x vs v us Q I rx rv h
 obtain⟨l,b,xs,zs,rfl,rfl,hH,hB,hz,q⟩:=h
 cases rx
 obtain⟨u,rfl,ru⟩:=rv.one
 cases ru
 obtain⟨z,its,n,r,hl,e⟩:=I.lstM hH
 obtain⟨z2,its2,n2,r2,hl2,e2⟩:=rA I hB
 have hsz:its.toArray.size+its2.toArray.size<=sizeLine:=by rw[List.size_toArray,List.size_toArray];omega
 have hlong:¬ (!its.toArray.isEmpty&&Builtin.List.listTooLong (its.toArray.size+its2.toArray.size))=true:=by
  rw[qM hsz,Bool.and_false]
  exact Bool.false_ne_true
 refine call_meets F.slot_list_extend ⟨_,e,rfl⟩ F.entry_list_extend (F.args_list_extend_2 _ _)
  (AutoSeq1.list_extend_list_list_0 l its.toArray n b its2.toArray n2 hlong (by rw[List.size_toArray];omega) (by omega)) ⟨e,e2,?_⟩
 refine⟨.non,_,I.lset (its':=its++its2) hH e (by simp) (r.append r2) ?_,rfl,q⟩
 rw[List.length_append]
 omega
theorem vK:cS3 cG5 bD6:=by
 intro H d p ds vs Q d' e ow r eq k
 unfold bD6 at eq
 split at eq
 ·split at eq
  ·rename_i l m hl
   cases eq
   obtain⟨xs,h1,h2⟩:=jZ ow
   obtain⟨x,rfl,a⟩:=aA2 r
   obtain⟨q,ys,rfl,h3,r3⟩:=gK a
   have:=h2.length
   have:=r3.length
   exact⟨p,q,xs,ys,rfl,rfl,h1,h3,by omega,k _ _ ⟨_,aT,(h2.append r3).mono (dR.ext ow)⟩ .non⟩
  ·cases eq
 ·cases eq
noncomputable def sX:FM:=fun d ds=>match d,ds with
 | .lst l,[.int i]=>if -(2 ^ 63)<=i/\i < 2 ^ 63 then(ixN l.length i).bind fun j=>(l[j]?).map fun y=>(.lst (l.eraseIdx j),y)else none
 | _,_=>none
theorem aK4:cP4 bI0 sX:=by
 intro H d p ds vs Q d' e ow r eq k
 unfold sX at eq
 split at eq
 ·split at eq
  ·rename_i l i hi
   obtain⟨j,e0,eq⟩:=aD eq
   obtain⟨y,e1,e2⟩:=Option.map_eq_some_iff.mp eq
   cases e2
   obtain⟨xs,h1,h2⟩:=jZ ow
   obtain⟨x,ex,rx⟩:=h2.get e1
   cases r with
   | cons a t=>
     cases t
     cases a
     exact⟨p,xs,i,j,x,rfl,rfl,h1,hi.1,hi.2,by rw[← h2.length];exact(uK e0).1,ex,k _ _ ⟨_,aT,(h2.eraseIdx j).mono (dR.ext ow)⟩ (rx.mono (dR.ext ow))⟩
  ·cases eq
 ·cases eq
noncomputable def cG6(i:Int)(e:D):D->Option D
 | .lst l=>(ixN l.length i).map fun j=>.lst (l.set j e)
 | _=>none
noncomputable def yS(k:Nat)(ri re:DE):DS:=fun σ=>(re σ).bind fun x=>match x.1 with
 | .val d=>if uE "list" k x.2=true then(ri x.2).bind fun y=>(rd y.2 y.1).bind fun di=>match di with
   | .int i=>(bA2 (fun a _=>(cG6 i d a).map fun b=>(b,.non)) k [] y.2).bind fun z=>some (.nx z.2)
   | _=>none else none
 | _=>none
theorem bK7{X:Cx}{E:Ex}{st:Stmt}{k:Nat}{ri re:DE}(h:∀ Γ,PS X st (bH5 (dTE Γ re) (bW8 (aC7 k) (dTE Γ ri) aF4))):GS E X st (yS k ri re):=.mk fun Γ=>psW (h Γ) fun D σV H ⟨σ,ok,o,e,kk⟩=>by
 obtain⟨⟨x,σ1⟩,e1,e⟩:=aD e
 refine⟨σ,ok,x,σ1,e1,fun v H1 ok1 r1 st1 f1=>?_⟩
 cases x with
 | own d=>cases e
 | slot d=>cases e
 | val d=>
   have e':(if uE "list" k σ1=true then(ri σ1).bind fun y=>(rd y.2 y.1).bind fun di=>match di with
    | .int i=>(bA2 (fun a _=>(cG6 i d a).map fun b=>(b,.non)) k [] y.2).bind fun z=>some (.nx z.2)
    | _=>none else none)=some o:=e
   split at e'
   ·rename_i hn
    obtain⟨⟨y,σ2⟩,e2,e'⟩:=aD e'
    obtain⟨di,e3,e'⟩:=aD e'
    obtain⟨s0,hs0,hm0,ht0⟩:=mW hn
    obtain⟨p,ep,ow⟩:=ok1.ownAt hs0 hm0
    dsimp only at e'
    split at e'
    ·rename_i i
     obtain⟨⟨z,σ3⟩,e4,e'⟩:=aD e'
     cases e'
     obtain⟨s,d',y',hs,hm,e5,rfl,rfl⟩:=jH e4
     obtain⟨b,e6,e7⟩:=Option.map_eq_some_iff.mp e5
     cases e7
     refine⟨_,ep,σ1,ok1,y,σ2,e2,fun vi H2 ok2 r2 st2 f2=>?_⟩
     obtain rfl:=cR (r2.vw ok2 e3)
     obtain⟨p',ep',ow2⟩:=ok2.ownAt hs (gO hm)
     rw[ep]at ep';cases ep'
     have rv:Rp H2 d v:=Rp.mono (st2.ext ok1) r1
     obtain⟨m,sd⟩:=s
     cases sd with
     | lst l=>
       obtain⟨j,e8,e9⟩:=Option.map_eq_some_iff.mp e6
       cases e9
       obtain⟨xs,h1,h2⟩:=jZ ow2
       refine⟨p,xs,i,j,rfl,rfl,h1,by rw[← h2.length];exact e8,?_⟩
       obtain⟨ok3,st3⟩:=ok2.write (d':=.lst (l.set j d)) (o':=.lst (xs.set j v)) hs hm ep ⟨_,aT,(h2.set j rv).mono (dR.ext ow2)⟩
       exact kk _ _ ok3 ((st1.trans st2).trans st3)
     | _=>cases e6
    ·cases e'
   ·cases e'
noncomputable def isD(neg:Bool):F2:=fun d e=>match e with
 | .non=>some (.val (.bl (if neg then !decide (d=.non)else decide (d=.non))))
 | .bl b=>(match d with | .bl a=>some (.val (.bl (if neg then !decide (a=b)else decide (a=b)))) | _=>none)
 | _=>none
theorem aA6{H:Hp}{d:D}{v:V}(h:Vw H d v):decide (v=.non)=decide (d=.non):=by
 rcases h with h | ⟨p,rfl,h⟩
 ·cases h<;>simp
 ·cases d<;>first | exact h.elim | simp
theorem cG7{neg:Bool}:pA (bP5 neg) (isD neg):=by
 intro H d1 d2 x y Q res v1 v2 e k
 unfold isD at e
 split at e
 ·cases e
  obtain rfl:=bK3 v2
  show Q (.bl (if neg then !decide (x=.non)else decide (x=.non))) H
  rw[aA6 v1]
  exact k _ H (.refl _) (.bl _)
 ·split at e
  ·cases e
   obtain rfl:=aA0 v2
   obtain rfl:=aA0 v1
   exact k _ H (.refl _) (.bl _)
  ·cases e
 ·cases e
noncomputable def aA7(i j:Int):Prop:=0 < j/\j < 18446744073709551616
theorem yT{X:Cx}:OpR X (binaryOp .FloorDiv) (rI aA7 fun i j=>.int (i / j)):=opI fun i j _ _ _ _ _ hc q=>by
 have h1:(0:Int) < j:=hc.1
 have h2:j < 18446744073709551616:=hc.2
 refine PyProof.Rows.floordiv_int (by omega) (by rw[Int.fdiv_eq_ediv_of_nonneg i (by omega)];exact q) (.inl (PyProof.noPylong_of_log2 ?_))
 have h0:j.natAbs≠0:=by omega
 have h64:j.natAbs.log2 < 64:=(Nat.log2_lt h0).mpr (by omega)
 omega
noncomputable def cM4:F2:=iiC aA7 fun i j=>.int (i / j)
theorem aK5:pA (rI aA7 fun i j=>.int (i / j)) cM4:=vF fun _ _ _=>.int _
mutual
def jP:D->PyData
 | .non=>.none
 | .bl b=>.bool b
 | .int i=>.int i
 | .str x=>.str x
 | .tup l=>.tuple (toPys l)
 | .lst l=>.list (toPys l)
 | .dic _ _=>.dict []
def toPys:List D->List PyData
 | []=>[]
 | d::r=>jP d::toPys r
end
section
variable{X:Cx}{pins:List (Addr×Obj)}{σ:St}{H:Hp}{s:Shared}
mutual
theorem yU(I:Inv X pins σ H s):∀ {d:D} {v:V} {u:Value},Rp H d v->eR v u->(jP d).canLay0=true->∃ as,Reads s.heap u (jP d) as
 | _,_,_,.non,r,_=>by cases r;exact⟨_,.none⟩
 | _,_,_,.bl b,r,_=>by cases r;exact⟨_,.bool b⟩
 | _,_,_,.int i,r,_=>by obtain⟨t,rfl⟩:=r;exact⟨_,.int i t⟩
 | _,_,_,.str x,r,_=>by obtain⟨t,rfl⟩:=r;exact⟨_,.str x t⟩
 | _,_,_,.tup h rs,r,hc=>by
   cases r
   obtain⟨_,its,vr,⟨o,ho,hcl,n,hd⟩,_⟩:=I.hok _ _ h
   obtain⟨as,ra⟩:=rps_reads I rs vr hc
   exact⟨_,.tuple ho hcl hd (by simpa using ra)⟩
 | _,_,_,.lst h rs,r,hc=>by
   cases r
   obtain⟨_,_,its,n,vr,e⟩:=I.hok _ _ h
   obtain⟨as,ra⟩:=rps_reads I rs vr hc
   exact⟨_,.list e rfl rfl (by simpa using ra)⟩
 | _,_,_,.dic h k rs,r,hc=>nomatch hc
theorem rps_reads(I:Inv X pins σ H s):∀ {l:List D} {vs:List V} {us:List Value},Rps H l vs->cO vs us->PyData.canLayAll0 (toPys l)=true->∃ as,ReadsAll s.heap us (toPys l) as
 | [],_,_,.nil,r,_=>by cases r;exact⟨_,.nil⟩
 | d::l,_,_,.cons a t,r,hc=>by
   cases r with
   | cons r1 r2=>
     have hc':(jP d).canLay0=true/\PyData.canLayAll0 (toPys l)=true:=by simpa[toPys,PyData.canLayAll0]using hc
     obtain⟨as,h1⟩:=yU I a r1 hc'.1
     obtain⟨bs,h2⟩:=rps_reads I t r2 hc'.2
     exact⟨_,.cons h1 h2⟩
end
theorem gM(I:Inv X pins σ H s){d:D}{v:V}{u:Value}(h:Vw H d v)(r:eR v u)(hc:(jP d).canLay0=true):∃ as,Reads s.heap u (jP d) as:=by
 rcases h with h | ⟨p,rfl,h⟩
 ·exact yU I h r hc
 ·cases r
  cases d with
  | lst l=>
    obtain⟨xs,h1,h2⟩:=jZ h
    obtain⟨_,its,n,vr,e⟩:=I.hok _ _ h1
    obtain⟨as,ra⟩:=rps_reads I h2 vr hc
    exact⟨_,.list e rfl rfl (by simpa using ra)⟩
  | dic ks vs=>exact nomatch hc
  | _=>exact h.elim
end
noncomputable def uF(d e:D):Bool:=PyData.eqv (jP d) (jP e)
noncomputable def jA(d:D):Bool:=(jP d).canLay0&&decide ((jP d).depth<=60)
noncomputable def cP8(neg:Bool):R2:=fun x y H Q=>∃ d e,Vw H d x/\Vw H e y/\jA d=true/\jA e=true/\Q (.bl (if neg then !uF d e else uF d e)) H
theorem fH{d:D}(h:jA d=true):(jP d).canLay0=true/\(jP d).depth<=60:=by
 unfold jA at h
 rw[Bool.and_eq_true,decide_eq_true_eq]at h
 exact h
theorem eB{X:Cx}(hu:X.A.units+64 < cLine):OpR X (compareOp .Eq) (cP8 false):=by
 intro pins s σ H x y v u Q I rx ry h
 obtain⟨d,e,v1,v2,c1,c2,q⟩:=h
 obtain⟨a1,b1⟩:=fH c1
 obtain⟨a2,b2⟩:=fH c2
 obtain⟨as,r1⟩:=gM I v1 rx a1
 obtain⟨bs,r2⟩:=gM I v2 ry a2
 exact SeqAt.rcAt_reads r1 r2 a1 a2 (by omega) _ _ _ _ ⟨.bl _,H,I,rfl,q⟩
theorem kX{X:Cx}(hu:X.A.units+64 < cLine):OpR X (compareOp .NotEq) (cP8 true):=by
 intro pins s σ H x y v u Q I rx ry h
 obtain⟨d,e,v1,v2,c1,c2,q⟩:=h
 obtain⟨a1,b1⟩:=fH c1
 obtain⟨a2,b2⟩:=fH c2
 obtain⟨as,r1⟩:=gM I v1 rx a1
 obtain⟨bs,r2⟩:=gM I v2 ry a2
 exact SeqAt.rcNeAt_reads r1 r2 a1 a2 (by omega) _ _ _ _ ⟨.bl _,H,I,rfl,q⟩
noncomputable def eqD(neg:Bool):F2:=fun d e=>if jA d=true/\jA e=true then some (.val (.bl (if neg then !uF d e else uF d e)))else none
theorem cK{neg:Bool}:pA (cP8 neg) (eqD neg):=by
 intro H d1 d2 x y Q res v1 v2 e k
 unfold eqD at e
 split at e
 ·rename_i hc
  cases e
  exact⟨d1,d2,v1,v2,hc.1,hc.2,k _ H (.refl _) (.bl _)⟩
 ·cases e
noncomputable def cP9(neg:Bool):R2:=fun x y H Q=>(∃ i j,x=.str i/\y=.str j/\Q (.bl (if neg then(Builtin.Str.occurrences j i 0 j.length 1).isEmpty else !(Builtin.Str.occurrences j i 0 j.length 1).isEmpty)) H) \/
 ∃ d e b l,Vw H d x/\Vw H e y/\cL9 e=some (b,l)/\jA d=true/\jA e=true/\Q (.bl (if neg then !(l.any fun y=>uF y d)else l.any fun y=>uF y d)) H
theorem nT(d:D):∀ l:List D,(toPys l).any (fun y=>PyData.eqv y (jP d))=l.any fun y=>uF y d
 | []=>rfl
 | e::r=>by show(PyData.eqv (jP e) (jP d)||(toPys r).any _)=_;rw[nT d r];rfl
theorem sY{e:D}{b:Bool}{l:List D}(h:cL9 e=some (b,l)):PyData.depthAll (toPys l)<=(jP e).depth/\((jP e).canLay0=true->PyData.canLayAll0 (toPys l)=true):=by
 cases e with
 | lst l'=>cases h;exact⟨by show _<=PyData.depth (.list (toPys l));simp only[PyData.depth];omega,fun z=>z⟩
 | tup l'=>cases h;exact⟨by show _<=PyData.depth (.tuple (toPys l));simp only[PyData.depth];omega,fun z=>z⟩
 | _=>cases h
theorem yV{X:Cx}(hu:X.A.units+64 < cLine):OpR X (compareOp .In) (cP9 false):=by
 intro pins s σ H x y v u Q I rx ry h
 rcases h with⟨i,j,rfl,rfl,q⟩ | ⟨d,e,b,l,v1,v2,hs,c1,c2,q⟩
 ·exact aE4 pins s σ H _ _ v u Q I rx ry ⟨_,_,rfl,rfl,by simpa using q⟩
 ·obtain⟨a1,b1⟩:=fH c1
  obtain⟨a2,b2⟩:=fH c2
  obtain⟨as,r1⟩:=gM I v1 rx a1
  obtain⟨bs,r2⟩:=gM I v2 ry a2
  obtain⟨dp,cl⟩:=sY hs
  have fin:EP X pins σ Q (.bool ((toPys l).any fun y=>PyData.eqv y (jP d))) s:=⟨.bl _,H,I,by rw[nT];rfl,q⟩
  cases e with
  | lst l'=>cases hs;exact SeqAt.in_list_reads r2 r1 (cl a2) a1 (by omega) fin
  | tup l'=>cases hs;exact SeqAt.in_tuple_reads r2 r1 (cl a2) a1 (by omega) fin
  | _=>cases hs
theorem hJ{X:Cx}(hu:X.A.units+64 < cLine):OpR X (compareOp .NotIn) (cP9 true):=by
 intro pins s σ H x y v u Q I rx ry h
 rcases h with⟨i,j,rfl,rfl,q⟩ | ⟨d,e,b,l,v1,v2,hs,c1,c2,q⟩
 ·exact rX pins s σ H _ _ v u Q I rx ry ⟨_,_,rfl,rfl,by simpa using q⟩
 ·obtain⟨a1,b1⟩:=fH c1
  obtain⟨a2,b2⟩:=fH c2
  obtain⟨as,r1⟩:=gM I v1 rx a1
  obtain⟨bs,r2⟩:=gM I v2 ry a2
  obtain⟨dp,cl⟩:=sY hs
  have fin:EP X pins σ Q (.bool (!(toPys l).any fun y=>PyData.eqv y (jP d))) s:=⟨.bl _,H,I,by rw[nT];rfl,q⟩
  cases e with
  | lst l'=>cases hs;exact SeqAt.notIn_list_reads r2 r1 (cl a2) a1 (by omega) fin
  | tup l'=>cases hs;exact SeqAt.notIn_tuple_reads r2 r1 (cl a2) a1 (by omega) fin
  | _=>cases hs
noncomputable def inD(neg:Bool):F2:=fun d e=>match d,e with
 | .str i,.str j=>some (.val (.bl (if neg then(Builtin.Str.occurrences j i 0 j.length 1).isEmpty else !(Builtin.Str.occurrences j i 0 j.length 1).isEmpty)))
 | d,e=>match cL9 e with
   | some (_,l)=>if jA d=true/\jA e=true then some (.val (.bl (if neg then !(l.any fun y=>uF y d)else l.any fun y=>uF y d)))else none
   | none=>none
theorem jQ{neg:Bool}:pA (cP9 neg) (inD neg):=by
 intro H d1 d2 x y Q res v1 v2 e k
 unfold inD at e
 split at e
 ·cases e
  obtain rfl:=jN v1
  obtain rfl:=jN v2
  exact .inl ⟨_,_,rfl,rfl,k _ H (.refl _) (.bl _)⟩
 ·split at e
  ·rename_i b l hs
   split at e
   ·rename_i hc
    cases e
    exact .inr ⟨d1,d2,b,l,v1,v2,hs,hc.1,hc.2,k _ H (.refl _) (.bl _)⟩
   ·cases e
  ·cases e
noncomputable def bR7(K:PySem.W.Frag):List V->Hp->VK->Prop:=fun xs H Q=>∃ x c t,xs=[x,.ty c]/\TyOf K H x (.type t)/\(t="NoneType"\/t="int"\/t="bool"\/t="str"\/t="list"\/t="tuple") /\
 (c="int"\/c="bool"\/c="str"\/c="list"\/c="tuple")/\Q (.bl (nJ t c)) H
theorem aK6{X:Cx}(K:PySem.W.Frag)(hK:X.K=K):iT X (.builtin "isinstance") (bR7 K):=by
 subst hK
 intro pins s σ H xs us Q I r h
 obtain⟨x,c,t,rfl,ty,h1,h2,q⟩:=h
 exact uP pins s σ H _ us Q I r ⟨x,c,.type t,_,rfl,ty,bC8 h1 h2,q⟩
theorem cG8{X:Cx}{e:Expr}{r:DE}{c:String}(K:PySem.W.Frag)(hc:c="int"\/c="bool"\/c="str"\/c="list"\/c="tuple")(h:∀ Γ,PE X e (tCB (bR7 K) (bB1 (dTE Γ r) (bB1 (tC (.ty c)) cN9)))):GE X e (bA1 (cG4 c) r):=.mk fun Γ=>peW (h Γ) fun σV H Q hq=>by
 have hp:bX1 (fun x H Q=>bR7 K [x,.ty c] H Q) (cG4 c):=by
  intro H d x Q res v1 e k
  cases d with
  | non=>cases e;obtain rfl:=bK3 v1;exact⟨_,_,_,rfl,.non,.inl rfl,hc,k _ H (.refl _) (.bl _)⟩
  | bl b=>cases e;obtain rfl:=aA0 v1;exact⟨_,_,_,rfl,.bl b,.inr (.inr (.inl rfl)),hc,k _ H (.refl _) (.bl _)⟩
  | int i=>cases e;obtain rfl:=cR v1;exact⟨_,_,_,rfl,.int i,.inr (.inl rfl),hc,k _ H (.refl _) (.bl _)⟩
  | str i=>cases e;obtain rfl:=jN v1;exact⟨_,_,_,rfl,.str i,.inr (.inr (.inr (.inl rfl))),hc,k _ H (.refl _) (.bl _)⟩
  | tup l=>cases e;obtain⟨p,xs,rfl,h1,_⟩:=gB v1;exact⟨_,_,_,rfl,.tup h1,.inr (.inr (.inr (.inr (.inr rfl)))),hc,k _ H (.refl _) (.bl _)⟩
  | lst l=>
    cases e
    rcases v1 with v1 | ⟨p,rfl,v1⟩
    ·cases v1 with
     | lst h1 _=>exact⟨_,_,_,rfl,.frz h1,.inr (.inr (.inr (.inr (.inl rfl)))),hc,k _ H (.refl _) (.bl _)⟩
    ·obtain⟨xs,h1,_⟩:=jZ v1
     exact⟨_,_,_,rfl,.lst h1,.inr (.inr (.inr (.inr (.inl rfl)))),hc,k _ H (.refl _) (.bl _)⟩
  | dic ks vs=>cases e
 exact yH hp hq
theorem gE{X:Cx}{e:Expr}{r:DE}(h:GE X e r)(Γ:Gm):PE X e (dTE Γ r):=h.to Γ
theorem gA{X:Cx}{e:List Expr}{r:DA}(h:GA X e r)(Γ:Gm):PA X e (dTA Γ r):=h.to Γ
theorem gT{X:Cx}{e:Expr}{r:DT}(h:GT X e r)(Γ:Gm):PT X e (dTT Γ r):=h.to Γ
theorem gI{X:Cx}{tg e:Expr}{r:DI}(h:GI X tg e r)(Γ:Gm):PI X tg e (dTI Γ r):=h.to Γ
theorem gSs{X:Cx}{E:Ex}{e:List Stmt}{r:DS}(h:GSs E X e r)(Γ:Gm):PSs X e (dTS Γ E r):=h.to Γ
noncomputable def aK7(K:PySem.W.Frag):Bool:=K.all fun p=>match p.2.cls with
 | .type n=>!(n=="list")
 | _=>true
theorem bR8{K:PySem.W.Frag}{H:Hp}{a:Addr}{ns:List Int}(hK:aK7 K=true)(hO:cC3 H)(hS:SqL K H a (ns.map V.int)):ArgOk H [⟨.val,.lst (ns.map D.int)⟩] [.ref a]:=by
 have hf:∃ o,H a=some (.frz o (.lst (ns.map V.int))):=by
  rcases hS with hS | ⟨o,its,n,hk,hc,_⟩
  ·rcases hS with hS | ⟨o,hS⟩
   ·rcases hO a with z | ⟨o,xs,z⟩
    ·rw[hS]at z;cases z
    ·rw[hS]at z;cases z
   ·exact⟨o,hS⟩
  ·exfalso
   unfold aK7 at hK
   rw[List.all_eq_true]at hK
   have hm:(a,o)∈K:=by
    clear hK hO
    have:∀ (l:List (Addr×Obj)),List.lookup a l=some o->(a,o)∈l:=by
     intro l
     induction l with
     | nil=>intro h;simp at h
     | cons p r ih=>
       intro h
       rw[List.lookup_cons]at h
       split at h
       ·rename_i e
        have:a=p.1:=by simpa using e
        cases h
        rw[this]
        exact List.mem_cons_self
       ·exact List.mem_cons_of_mem _ (ih h)
    exact this K hk
   have:=hK _ hm
   rw[hc]at this
   simp at this
 obtain⟨o,hf⟩:=hf
 refine⟨rfl,fun i s e=>?_,fun i j s t p n ei ej m=>?_,fun i s e=>?_⟩
 ·cases i with
  | zero=>simp at e;subst e;exact⟨_,rfl,.lst hf (iG ns)⟩
  | succ i=>simp at e
 ·cases i with
  | zero=>simp at ei;subst ei;cases m
  | succ i=>simp at ei
 ·cases i with
  | zero=>simp at e;subst e;exact fun z=>nomatch z
  | succ i=>simp at e
noncomputable def OK1{α:Type}(o:Option α)(K:α->Prop):Prop:=match o with
 | some a=>K a
 | none=>False
noncomputable def RE(r:DE)(σ:Sg)(Q:Res->Sg->Prop):Prop:=OK1 (r σ) fun x=>Q x.1 x.2
noncomputable def RT(r:DT)(σ:Sg)(Q:Bool->Sg->Prop):Prop:=OK1 (r σ) fun x=>Q x.1 x.2
noncomputable def RA(r:DA)(σ:Sg)(Q:List Res->Sg->Prop):Prop:=OK1 (r σ) fun x=>Q x.1 x.2
noncomputable def RS(r:DS)(σ:Sg)(Q:Out->Prop):Prop:=OK1 (r σ) Q
noncomputable def RI(r:DI)(σ:Sg)(Q:List D->Option Nat->Sg->Prop):Prop:=OK1 (r σ) fun x=>Q x.1 x.2.1 x.2.2
noncomputable def RO(r:DO)(σ:Sg)(Q:Option Int->Sg->Prop):Prop:=OK1 (r σ) fun x=>Q x.1 x.2
theorem aO{α β:Type}{o:Option α}{f:α->Option β}{K:β->Prop}:OK1 (o.bind f) K=OK1 o fun a=>OK1 (f a) K:=by cases o<;>rfl
theorem cF{α:Type}{a:α}{K:α->Prop}:OK1 (some a) K=K a:=rfl
theorem sZ{α β:Type}{o:Option α}{f:α->β}{K:β->Prop}:OK1 (o.map f) K=OK1 o fun a=>K (f a):=by cases o<;>rfl
theorem bZ{α:Type}{c:Prop}[Decidable c]{o:Option α}{K:α->Prop}:OK1 (if c then o else none) K=(c/\OK1 o K):=by
 by_cases h:c
 ·rw[if_pos h];exact propext ⟨fun q=>⟨h,q⟩,fun q=>q.2⟩
 ·rw[if_neg h];exact propext ⟨fun q=>q.elim,fun q=>h q.1⟩
theorem jR{α:Type}{o:Option α}{K:α->Prop}:OK1 o K↔∃ a,o=some a/\K a:=by
 cases o with
 | none=>exact⟨fun q=>q.elim,fun⟨_,e,_⟩=>nomatch e⟩
 | some a=>exact⟨fun q=>⟨a,rfl,q⟩,fun⟨_,e,q⟩=>by cases e;exact q⟩
theorem cG{α:Type}{o:Option α}{K K':α->Prop}(h:OK1 o K)(w:∀ a,K a->K' a):OK1 o K':=by
 cases o with
 | none=>exact h
 | some a=>exact w a h
noncomputable def VK:Nat->Sg->Nat->Sg->(Res->Sg->Prop)->Prop
 | 0,some s::_,i,σ,Q=>Q (if s.m=.val then .val s.d else .slot i) σ
 | n+1,_::r,i,σ,Q=>VK n r i σ Q
 | _,_,_,_,_=>False
theorem cG9:∀ (n:Nat) (r:Sg) (i:Nat) (σ:Sg) (Q:Res->Sg->Prop),VK n r i σ Q=OK1 (match r[n]? with | some (some s)=>some (if s.m=.val then Res.val s.d else Res.slot i,σ) | _=>none) fun x=>Q x.1 x.2
 | 0,[],_,_,_=>rfl
 | 0,none::_,_,_,_=>rfl
 | 0,some s::_,_,_,_=>rfl
 | n+1,[],_,_,_=>rfl
 | n+1,_::r,i,σ,Q=>by
   show VK n r i σ Q=_
   rw[cG9 n r i σ Q,List.getElem?_cons_succ]
noncomputable def GK:Nat->Sg->(D->Prop)->Prop
 | 0,some s::_,K=>K s.d
 | n+1,_::r,K=>GK n r K
 | _,_,_=>False
theorem cH0:∀ (n:Nat) (r:Sg) (K:D->Prop),GK n r K=OK1 (match r[n]? with | some (some s)=>some s.d | _=>none) K
 | 0,[],_=>rfl
 | 0,none::_,_=>rfl
 | 0,some s::_,_=>rfl
 | n+1,[],_=>rfl
 | n+1,_::r,K=>by
   show GK n r K=_
   rw[cH0 n r K,List.getElem?_cons_succ]
noncomputable def RD(σ:Sg)(r:Res)(K:D->Prop):Prop:=OK1 (rd σ r) K
noncomputable def PK:Nat->Sg->Sl->(Sg->Prop)->Prop
 | 0,none::r,s,K=>K (some s::r)
 | 0,some ⟨.val,_⟩::r,s,K=>K (some s::r)
 | 0,some ⟨.own,_⟩::r,s,K=>K (some s::r)
 | n+1,o::r,s,K=>PK n r s fun r'=>K (o::r')
 | _,_,_,_=>False
theorem aA8{n:Nat}{o:Option Sl}{r:Sg}:eX (o::r) (n+1)=eX r n:=by unfold eX;rw[List.getElem?_cons_succ]
theorem bD7:∀ (n:Nat) (r:Sg) (s:Sl) (K:Sg->Prop),PK n r s K=OK1 (if eX r n=true then some (r.set n (some s))else none) K
 | 0,[],s,K=>rfl
 | 0,none::r,s,K=>rfl
 | 0,some ⟨.val,_⟩::r,s,K=>rfl
 | 0,some ⟨.own,_⟩::r,s,K=>rfl
 | 0,some ⟨.par,_⟩::r,s,K=>rfl
 | 0,some ⟨.lent,_⟩::r,s,K=>rfl
 | n+1,[],s,K=>by
   show False=_
   rw[bZ];unfold eX;simp
 | n+1,o::r,s,K=>by
   show PK n r s (fun r'=>K (o::r'))=_
   rw[bD7 n r s _,bZ,bZ,aA8,List.set_cons_succ]
   rfl
noncomputable def MK:Nat->Sg->FM->List D->(D->Sg->Prop)->Prop
 | 0,some ⟨.own,d⟩::r,f,ds,K=>OK1 (f d ds) fun y=>K y.2 (some ⟨.own,y.1⟩::r)
 | 0,some ⟨.par,d⟩::r,f,ds,K=>OK1 (f d ds) fun y=>K y.2 (some ⟨.par,y.1⟩::r)
 | n+1,o::r,f,ds,K=>MK n r f ds fun e r'=>K e (o::r')
 | _,_,_,_,_=>False
theorem cH1:∀ (n:Nat) (r:Sg) (f:FM) (ds:List D) (K:D->Sg->Prop),MK n r f ds K=OK1 (bA2 f n ds r) fun x=>OK1 (match x.1 with | .val d=>some d | _=>none) fun d=>K d x.2
 | 0,[],f,ds,K=>rfl
 | 0,none::r,f,ds,K=>rfl
 | 0,some ⟨.val,_⟩::r,f,ds,K=>rfl
 | 0,some ⟨.lent,_⟩::r,f,ds,K=>rfl
 | 0,some ⟨.own,d⟩::r,f,ds,K=>by
   show OK1 (f d ds) _=OK1 ((f d ds).bind fun y=>some (Res.val y.2,some (⟨.own,y.1⟩:Sl)::r)) _
   rw[aO];rfl
 | 0,some ⟨.par,d⟩::r,f,ds,K=>by
   show OK1 (f d ds) _=OK1 ((f d ds).bind fun y=>some (Res.val y.2,some (⟨.par,y.1⟩:Sl)::r)) _
   rw[aO];rfl
 | n+1,[],f,ds,K=>rfl
 | n+1,o::r,f,ds,K=>by
   show MK n r f ds (fun e r'=>K e (o::r'))=_
   rw[cH1 n r f ds _]
   unfold bA2
   rw[List.getElem?_cons_succ]
   cases q:r[n]? with
   | none=>rfl
   | some x=>cases x with
     | none=>rfl
     | some s=>
       dsimp only
       by_cases hm:s.m.mt=true
       ·rw[if_pos hm,if_pos hm,aO,aO];rfl
       ·rw[if_neg hm,if_neg hm];rfl
noncomputable def TK:String->Nat->Sg->Prop->Prop
 | T,0,some ⟨.own,d⟩::_,P=>tyD T d=true/\P
 | T,0,some ⟨.par,d⟩::_,P=>tyD T d=true/\P
 | T,0,some ⟨.lent,d⟩::_,P=>tyD T d=true/\P
 | T,n+1,_::r,P=>TK T n r P
 | _,_,_,_=>False
theorem bD8:∀ (T:String) (n:Nat) (r:Sg) (P:Prop),TK T n r P=(uE T n r=true/\P)
 | T,0,[],P=>by simp[TK,uE]
 | T,0,none::r,P=>by simp[TK,uE]
 | T,0,some ⟨.val,d⟩::r,P=>by simp[TK,uE]
 | T,0,some ⟨.own,d⟩::r,P=>by simp[TK,uE]
 | T,0,some ⟨.par,d⟩::r,P=>by simp[TK,uE]
 | T,0,some ⟨.lent,d⟩::r,P=>by simp[TK,uE]
 | T,n+1,[],P=>by simp[TK,uE]
 | T,n+1,o::r,P=>by
   show TK T n r P=_
   rw[bD8 T n r P]
   unfold uE
   rw[List.getElem?_cons_succ]
section
variable{σ:Sg}{Q:Res->Sg->Prop}{QT:Bool->Sg->Prop}{QA:List Res->Sg->Prop}{QS:Out->Prop}{K:D->Prop}{KR:Res->Prop}{a b c:DE}{ra:DA}{t u:DT}{x y:DS}{d e:D}{f:F2}{f1:F1}{fn:FN}{i j n:Nat}{r:Sg}{o:Option Sl}
theorem cQ0:RE (dC d) σ Q=Q (.val d) σ:=rfl
theorem aK8:RE (aH i) σ Q=VK i σ i σ Q:=(cG9 i σ i σ Q).symm
theorem aK9:VK (n+1) (o::r) i σ Q=VK n r i σ Q:=rfl
theorem aL0:VK 0 (some ⟨.val,d⟩::r) i σ Q=Q (.val d) σ:=rfl
theorem aL1:VK 0 (some ⟨.own,d⟩::r) i σ Q=Q (.slot i) σ:=rfl
theorem aL2:VK 0 (some ⟨.par,d⟩::r) i σ Q=Q (.slot i) σ:=rfl
theorem aL3:VK 0 (some ⟨.lent,d⟩::r) i σ Q=Q (.slot i) σ:=rfl
theorem aL4:RE (aV f a b) σ Q=RE a σ fun x σ1=>RE b σ1 fun y σ2=>RD σ2 x fun d=>RD σ2 y fun e=>OK1 (f d e) fun r=>Q r σ2:=by
 unfold RE aV RD;simp only[aO,cF]
theorem aL5:RE (bA1 f1 a) σ Q=RE a σ fun x σ1=>RD σ1 x fun d=>OK1 (f1 d) fun r=>Q r σ1:=by
 unfold RE bA1 RD;simp only[aO,cF]
theorem aL6:RD σ (.val d) K=K d:=rfl
theorem aL7:RD σ (.own d) K=K d:=rfl
theorem aL8:RD σ (.slot i) K=GK i σ K:=(cH0 i σ K).symm
theorem aL9{m:Md}:GK 0 (some ⟨m,d⟩::r) K=K d:=rfl
theorem aM0:GK (n+1) (o::r) K=GK n r K:=rfl
theorem aM1:RT (dJ a) σ QT=RE a σ fun x σ1=>RD σ1 x fun d=>OK1 (match d with | .bl b=>some b | _=>none) fun b=>QT b σ1:=by
 unfold RT RE dJ RD
 simp only[aO]
 congr 1;funext x;congr 1;funext d
 cases d<;>rfl
theorem aM2{b:Bool}{K:Bool->Prop}:OK1 (match D.bl b with | .bl b=>some b | _=>none) K=K b:=rfl
theorem aM3:RT (bQ4 t u) σ QT=RT t σ fun b σ1=>if b=true then RT u σ1 QT else QT false σ1:=by
 unfold RT bQ4;simp only[aO]
 congr 1;funext x;by_cases h:x.1=true<;>simp[h,OK1]
theorem bR9:RT (dOr t u) σ QT=RT t σ fun b σ1=>if b=true then QT true σ1 else RT u σ1 QT:=by
 unfold RT dOr;simp only[aO]
 congr 1;funext x;by_cases h:x.1=true<;>simp[h,OK1]
theorem aM4:RT (cE8 t) σ QT=RT t σ fun b σ1=>QT (!b) σ1:=by
 unfold RT cE8;simp only[aO,cF]
theorem rC:RT lK σ QT=QT true σ:=rfl
theorem vL:RE (aJ0 a b) σ Q=RT (dJ a) σ fun t σ1=>if t=true then RE b σ1 Q else Q (.val (.bl false)) σ1:=by
 unfold RT RE aJ0;simp only[aO]
 congr 1;funext x;by_cases h:x.1=true<;>simp[h,OK1]
theorem aM5{b:Bool}{K:Bool->Prop}:OK1 (match Res.val (D.bl b)with | .val (.bl t)=>some t | _=>none) K=K b:=rfl
theorem aM6:RA aN σ QA=QA [] σ:=rfl
theorem vM:RA (aC a ra) σ QA=RE a σ fun x σ1=>RA ra σ1 fun xs σ2=>QA (x::xs) σ2:=by
 unfold RA RE aC;simp only[aO,cF]
noncomputable def RDs(σ:Sg)(rs:List Res)(K:List D->Prop):Prop:=OK1 (rds σ rs) K
noncomputable def VLs(rs:List Res)(K:List D->Prop):Prop:=OK1 (vals rs) K
theorem vN{K:List D->Prop}:RDs σ [] K=K []:=rfl
theorem vO{x:Res}{xs:List Res}{K:List D->Prop}:RDs σ (x::xs) K=RD σ x fun d=>RDs σ xs fun ds=>K (d::ds):=by
 show OK1 ((rd σ x).bind fun d=>(rds σ xs).bind fun ds=>some (d::ds)) K=_
 unfold RDs RD;simp only[aO,cF]
theorem aM7{K:List D->Prop}:VLs [] K=K []:=rfl
theorem aM8{xs:List Res}{K:List D->Prop}:VLs (.val d::xs) K=VLs xs fun ds=>K (d::ds):=by
 show OK1 ((vals xs).bind fun ds=>some (d::ds)) K=_
 unfold VLs;simp only[aO,cF]
theorem bS0:RE (dCB fn ra) σ Q=RA ra σ fun xs σ1=>RDs σ1 xs fun ds=>OK1 (fn ds) fun r=>Q r σ1:=by
 unfold RE RA RDs dCB;simp only[aO,cF]
theorem aM9:RE (aC8 ra) σ Q=RA ra σ fun xs σ1=>VLs xs fun ds=>ds.length<=sizeLine/\Q (.val (.tup ds)) σ1:=by
 unfold RE RA VLs aC8;simp only[aO,bZ,cF]
theorem aN0:RE (iI ra) σ Q=RA ra σ fun xs σ1=>VLs xs fun ds=>ds.length<=sizeLine/\Q (.own (.lst ds)) σ1:=by
 unfold RE RA VLs iI;simp only[aO,bZ,cF]
noncomputable def FK(r:Res)(σ:Sg)(K:D->Sg->Prop):Prop:=OK1 (cS2 σ r) fun x=>K x.1 x.2
noncomputable def ZK:Nat->Sg->(D->Sg->Prop)->Prop
 | 0,some ⟨.own,d⟩::r,K=>K d (some ⟨.val,d⟩::r)
 | 0,some ⟨.val,d⟩::r,K=>K d (some ⟨.val,d⟩::r)
 | n+1,o::r,K=>ZK n r fun d r'=>K d (o::r')
 | _,_,_=>False
theorem cH2:∀ (n:Nat) (r:Sg) (K:D->Sg->Prop),ZK n r K=FK (.slot n) r K
 | 0,[],K=>rfl
 | 0,none::r,K=>rfl
 | 0,some ⟨.val,_⟩::r,K=>rfl
 | 0,some ⟨.own,_⟩::r,K=>rfl
 | 0,some ⟨.par,_⟩::r,K=>rfl
 | 0,some ⟨.lent,_⟩::r,K=>rfl
 | n+1,[],K=>rfl
 | n+1,o::r,K=>by
   show ZK n r (fun d r'=>K d (o::r'))=_
   rw[cH2 n r _]
   show OK1 (match r[n]? with | some (some s)=>if s.m=.own then some (s.d,r.set n (some ⟨.val,s.d⟩))else if s.m=.val then some (s.d,r)else none | _=>none) _ =
    OK1 (match (o::r)[n+1]? with | some (some s)=>if s.m=.own then some (s.d,(o::r).set (n+1) (some ⟨.val,s.d⟩))else if s.m=.val then some (s.d,o::r)else none | _=>none) _
   rw[List.getElem?_cons_succ]
   cases r[n]? with
   | none=>rfl
   | some x=>cases x with
     | none=>rfl
     | some s=>
       dsimp only
       by_cases h1:s.m=.own
       ·rw[if_pos h1,if_pos h1];rfl
       ·rw[if_neg h1,if_neg h1]
        by_cases h2:s.m=.val
        ·rw[if_pos h2,if_pos h2];rfl
        ·rw[if_neg h2,if_neg h2];rfl
theorem bS1:RE (dFz a) σ Q=RE a σ fun x σ1=>FK x σ1 fun d σ2=>Q (.val d) σ2:=by
 unfold RE dFz FK;simp only[aO,cF]
theorem aN1{K:D->Sg->Prop}:FK (.val d) σ K=K d σ:=rfl
theorem aN2{K:D->Sg->Prop}:FK (.own d) σ K=K d σ:=rfl
theorem aN3{K:D->Sg->Prop}:FK (.slot i) σ K=ZK i σ K:=(cH2 i σ K).symm
theorem aN4{K:D->Sg->Prop}:ZK 0 (some ⟨.own,d⟩::r) K=K d (some ⟨.val,d⟩::r):=rfl
theorem aN5{K:D->Sg->Prop}:ZK 0 (some ⟨.val,d⟩::r) K=K d (some ⟨.val,d⟩::r):=rfl
theorem aN6{K:D->Sg->Prop}:ZK (n+1) (o::r) K=ZK n r fun d r'=>K d (o::r'):=rfl
theorem vP:RS eL σ QS=QS (.nx σ):=rfl
theorem vQ:RS (fun σ=>some (.ct σ)) σ QS=QS (.ct σ):=rfl
noncomputable def SqK(y:DS)(QS:Out->Prop):Out->Prop
 | .nx σ=>RS y σ QS
 | o=>QS o
theorem aN7:RS (bN x y) σ QS=RS x σ (SqK y QS):=by
 unfold RS bN
 rw[aO]
 congr 1;funext o
 cases o<;>rfl
theorem aN8:SqK y QS (.nx σ)=RS y σ QS:=rfl
theorem aN9{v:Res}:SqK y QS (.rt v σ)=QS (.rt v σ):=rfl
theorem aO0:SqK y QS (.bk σ)=QS (.bk σ):=rfl
theorem aO1:SqK y QS (.ct σ)=QS (.ct σ):=rfl
theorem vR:RS (iQ a) σ QS=RE a σ fun _ σ1=>QS (.nx σ1):=by unfold RS RE iQ;simp only[aO,cF]
theorem aO2:RS (gU a) σ QS=RE a σ fun x σ1=>QS (.rt x σ1):=by unfold RS RE gU;simp only[aO,cF]
theorem vS:RS cP5 σ QS=QS (.rt (.val .non) σ):=rfl
theorem aO3:RS (jO t x y) σ QS=RT t σ fun b σ1=>if b=true then RS x σ1 QS else RS y σ1 QS:=by
 unfold RS RT jO;simp only[aO]
 congr 1;funext z;by_cases h:z.1=true<;>simp[h]
noncomputable def PtK(i:Nat)(r:Res)(σ:Sg)(K:Sg->Prop):Prop:=OK1 (cM0 i r σ) K
theorem aO4:RS (cC i a) σ QS=RE a σ fun x σ1=>PtK i x σ1 fun σ2=>QS (.nx σ2):=by unfold RS RE PtK cC;simp only[aO,cF]
theorem aO5{K:Sg->Prop}:PtK i (.val d) σ K=PK i σ ⟨.val,d⟩ K:=(bD7 i σ _ K).symm
theorem aO6{K:Sg->Prop}:PtK i (.own d) σ K=PK i σ ⟨.own,d⟩ K:=(bD7 i σ _ K).symm
theorem aO7{s:Sl}{K:Sg->Prop}:PK 0 (none::r) s K=K (some s::r):=rfl
theorem aO8{s:Sl}{K:Sg->Prop}:PK 0 (some ⟨.val,d⟩::r) s K=K (some s::r):=rfl
theorem aO9{s:Sl}{K:Sg->Prop}:PK 0 (some ⟨.own,d⟩::r) s K=K (some s::r):=rfl
theorem aP0{s:Sl}{K:Sg->Prop}:PK (n+1) (o::r) s K=PK n r s fun r'=>K (o::r'):=rfl
theorem bS2{fm:FM}{ds:List D}{σ:Sg}:OK1 (bA2 fm i ds σ) (fun x=>Q x.1 x.2)=MK i σ fm ds fun d σ1=>Q (.val d) σ1:=by
 rw[cH1]
 apply propext
 rw[jR,jR]
 constructor
 ·rintro⟨⟨x,s⟩,e,q⟩
  obtain⟨_,_,_,_,_,_,rfl,_⟩:=jH e
  exact⟨_,e,q⟩
 ·rintro⟨⟨x,s⟩,e,q⟩
  obtain⟨_,_,_,_,_,_,rfl,_⟩:=jH e
  exact⟨_,e,q⟩
theorem vT{T:String}{fm:FM}:RE (jV T i fm ra) σ Q=TK T i σ (RA ra σ fun xs σ1=>VLs xs fun ds=>MK i σ1 fm ds fun d σ2=>Q (.val d) σ2):=by
 rw[bD8]
 unfold RE jV RA VLs
 rw[bZ]
 simp only[aO,bS2]
theorem vU{T:String}{fm:FM}:RE (qX T i fm ra) σ Q=TK T i σ (RA ra σ fun xs σ1=>RDs σ1 xs fun ds=>MK i σ1 fm ds fun d σ2=>Q (.val d) σ2):=by
 rw[bD8]
 unfold RE qX RA RDs
 rw[bZ]
 simp only[aO,bS2]
theorem aP1{T:String}{P:Prop}:TK T 0 (some ⟨.own,d⟩::r) P=(tyD T d=true/\P):=rfl
theorem aP2{T:String}{P:Prop}:TK T 0 (some ⟨.par,d⟩::r) P=(tyD T d=true/\P):=rfl
theorem aP3{T:String}{P:Prop}:TK T (n+1) (o::r) P=TK T n r P:=rfl
theorem aP4{fm:FM}{ds:List D}{K:D->Sg->Prop}:MK 0 (some ⟨.own,d⟩::r) fm ds K=OK1 (fm d ds) fun y=>K y.2 (some ⟨.own,y.1⟩::r):=rfl
theorem aP5{fm:FM}{ds:List D}{K:D->Sg->Prop}:MK 0 (some ⟨.par,d⟩::r) fm ds K=OK1 (fm d ds) fun y=>K y.2 (some ⟨.par,y.1⟩::r):=rfl
theorem aP6{fm:FM}{ds:List D}{K:D->Sg->Prop}:MK (n+1) (o::r) fm ds K=MK n r fm ds fun e r'=>K e (o::r'):=rfl
theorem aP7:RS (yS i a b) σ QS=RE b σ fun x σ1=>OK1 (match x with | .val d=>some d | _=>none) fun d=>TK "list" i σ1 (RE a σ1 fun y σ2=>RD σ2 y fun di=>OK1 (match di with | .int k=>some k | _=>none) fun k=>
  MK i σ2 (fun a _=>(cG6 k d a).map fun b=>(b,.non)) [] fun _ σ3=>QS (.nx σ3)):=by
 unfold RS RE RD yS
 rw[aO]
 congr 1;funext x
 obtain⟨x,σ1⟩:=x
 cases x with
 | own d=>rfl
 | slot d=>rfl
 | val d=>
   show OK1 _ _=TK _ _ _ _
   rw[bD8]
   dsimp only
   rw[bZ]
   simp only[aO]
   congr 1;congr 1;funext y;congr 1;funext di
   cases di with
   | int k=>
     dsimp only
     rw[aO]
     show _=MK _ _ _ _ _
     rw[← bS2 (Q:=fun _ σ3=>QS (.nx σ3))]
     rfl
   | _=>rfl
theorem aP8{K:D->Prop}:OK1 (match Res.val d with | .val d=>some d | _=>none) K=K d:=rfl
theorem aP9{k:Int}{K:Int->Prop}:OK1 (match D.int k with | .int k=>some k | _=>none) K=K k:=rfl
theorem aQ0{g:DG}:RS (cM1 g a) σ QS=RE a σ fun x σ1=>OK1 (match x with | .val d=>some d | _=>none) fun d=>OK1 (g d σ1) fun σ2=>QS (.nx σ2):=by
 unfold RS RE cM1
 rw[aO]
 congr 1;funext x
 obtain⟨x,σ1⟩:=x
 cases x with
 | own d=>rfl
 | slot d=>rfl
 | val d=>
   show OK1 ((g d σ1).bind _) _=OK1 (g d σ1) _
   rw[aO];rfl
theorem bS3{K:Sg->Prop}:OK1 (dgN i d σ) K=PK i σ ⟨.val,d⟩ K:=(bD7 i σ _ K).symm
theorem vV{gs:DGs}{l:List D}{K:Sg->Prop}:OK1 (iK n gs (.tup l) σ) K=(l.length=n/\OK1 (gs l σ) K):=by
 show OK1 (if l.length=n then gs l σ else none) K=_
 rw[bZ]
theorem rD{g:DG}{gs:DGs}{l:List D}{K:Sg->Prop}:OK1 (bS g gs (d::l) σ) K=OK1 (g d σ) fun σ1=>OK1 (gs l σ1) K:=by
 show OK1 ((g d σ).bind fun σ1=>gs l σ1) K=_
 rw[aO]
theorem vW{K:Sg->Prop}:OK1 (gX [] σ) K=K σ:=rfl
theorem aQ1:RS (cM2 i j ra) σ QS=RA ra σ fun xs σ1=>VLs xs fun ds=>OK1 (match ds with | [d,e]=>some (d,e) | _=>none) fun p=>(eX σ1 i=true/\eX σ1 j=true/\i≠j)/\QS (.nx ((σ1.set i (some ⟨.val,p.1⟩)).set j (some ⟨.val,p.2⟩))):=by
 unfold RS RA VLs cM2
 simp only[aO]
 congr 1;funext x;congr 1;funext ds
 match ds with
 | []=>rfl
 | [_]=>rfl
 | [d,e]=>show OK1 (if eX x.2 i=true/\eX x.2 j=true/\i≠j then _ else none) QS=_;rw[bZ];rfl
 | _::_::_::_=>rfl
theorem aQ2{K:D×D->Prop}:OK1 (match [d,e]with | [d,e]=>some (d,e) | _=>none) K=K (d,e):=rfl
end
noncomputable def CK(run:Run)(as:List Sl)(K:Res->List Sl->Prop):Prop:=OK1 (run as) fun y=>K y.1 y.2
noncomputable def AK(σ:Sg)(rs:List Res)(K:List Sl->Prop):Prop:=OK1 (nR σ rs) K
noncomputable def A1(σ:Sg)(r:Res)(K:Sl->Prop):Prop:=OK1 (vE σ r) K
noncomputable def HK:Nat->Sg->(Sl->Prop)->Prop
 | 0,some ⟨m,d⟩::_,K=>K ⟨if m.mt=true then .par else m,d⟩
 | n+1,_::r,K=>HK n r K
 | _,_,_=>False
theorem cH3:∀ (n:Nat) (r:Sg) (K:Sl->Prop),HK n r K=A1 r (.slot n) K
 | 0,[],_=>rfl
 | 0,none::_,_=>rfl
 | 0,some s::_,_=>rfl
 | n+1,[],_=>rfl
 | n+1,_::r,K=>by
   show HK n r K=_
   rw[cH3 n r K]
   show OK1 (match r[n]? with | some (some s)=>some (⟨if s.m.mt=true then .par else s.m,s.d⟩:Sl) | _=>none) K=OK1 (match (_::r)[n+1]? with | some (some s)=>some (⟨if s.m.mt=true then .par else s.m,s.d⟩:Sl) | _=>none) K
   rw[List.getElem?_cons_succ]
noncomputable def UK:Nat->Sg->D->(Sg->Prop)->Prop
 | 0,some ⟨.own,_⟩::r,d,K=>K (some ⟨.own,d⟩::r)
 | 0,some ⟨.par,_⟩::r,d,K=>K (some ⟨.par,d⟩::r)
 | 0,o::r,_,K=>K (o::r)
 | n+1,o::r,d,K=>UK n r d fun r'=>K (o::r')
 | _,[],_,K=>K []
noncomputable def uS(σ:Sg)(i:Nat)(d:D):Sg:=match σ[i]? with
 | some (some s)=>if s.m.mt=true then σ.set i (some ⟨s.m,d⟩)else σ
 | _=>σ
theorem cH4:∀ (n:Nat) (r:Sg) (d:D) (K:Sg->Prop),UK n r d K=K (uS r n d)
 | 0,[],_,_=>rfl
 | n+1,[],_,_=>rfl
 | 0,none::r,d,K=>rfl
 | 0,some ⟨.val,_⟩::r,d,K=>rfl
 | 0,some ⟨.own,_⟩::r,d,K=>rfl
 | 0,some ⟨.par,_⟩::r,d,K=>rfl
 | 0,some ⟨.lent,_⟩::r,d,K=>rfl
 | n+1,o::r,d,K=>by
   show UK n r d (fun r'=>K (o::r'))=_
   rw[cH4 n r d _]
   unfold uS
   rw[List.getElem?_cons_succ]
   cases r[n]? with
   | none=>rfl
   | some x=>cases x with
     | none=>rfl
     | some s=>
       dsimp only
       by_cases h:s.m.mt=true
       ·rw[if_pos h,if_pos h];rfl
       ·rw[if_neg h,if_neg h]
noncomputable def sB:List Res->List Sl->Sg->Sg
 | .slot i::rs,a::as,σ=>sB rs as (uS σ i a.d)
 | _::rs,_::as,σ=>sB rs as σ
 | _,_,σ=>σ
theorem cH5{σ:Sg}{i j:Nat}{d:D}:(uS σ i d)[j]? = (σ[j]?).map fun o=>if j=i then(match o with | some s=>some (if s.m.mt=true then⟨s.m,d⟩else s) | none=>none)else o:=by
 unfold uS
 by_cases hj:j=i
 ·subst hj
  cases h:σ[j]? with
  | none=>dsimp only;rw[h];rfl
  | some o=>
    cases o with
    | none=>dsimp only;rw[h];simp
    | some s=>
      dsimp only
      by_cases hm:s.m.mt=true
      ·rw[if_pos hm,List.getElem?_set_self (List.getElem?_eq_some_iff.mp h).1];simp[hm]
      ·rw[if_neg hm,h];simp[hm]
 ·have:∀ x:Option Sl,(σ.set i x)[j]? = σ[j]?:=fun x=>List.getElem?_set_ne (Ne.symm hj)
  split
  ·split
   ·rw[this];cases σ[j]? <;> simp[hj]
   ·cases σ[j]? <;> simp[hj]
  ·cases σ[j]? <;> simp[hj]
theorem yW:∀ (rs:List Res) (as:List Sl) (σ:Sg) (j:Nat),eM rs=true->(sB rs as σ)[j]? = (σ[j]?).map (kW rs as j)
 | [],as,σ,j,_=>by cases as<;>(show σ[j]? = _;cases σ[j]? with | none=>rfl | some o=>cases o<;>simp[kW,iY])
 | r::rs,[],σ,j,_=>by cases r<;>(show σ[j]? = _;cases σ[j]? with | none=>rfl | some o=>cases o<;>simp[kW,iY])
 | .val d::rs,a::as,σ,j,h=>yW rs as σ j h
 | .own d::rs,a::as,σ,j,h=>yW rs as σ j h
 | .slot i::rs,a::as,σ,j,h=>by
   have h':eM rs=true/\bA4 i rs=false:=by
    unfold eM at h
    rw[Bool.and_eq_true]at h
    exact⟨h.2,by simpa using h.1⟩
   show(sB rs as (uS σ i a.d))[j]? = _
   rw[yW rs as _ j h'.1,cH5]
   cases σ[j]? with
   | none=>rfl
   | some o=>
     cases o with
     | none=>by_cases hj:j=i<;>simp[kW,hj]
     | some s=>
       by_cases hj:j=i
       ·subst hj
        have hl:iY j rs as=none:=by
         cases q:iY j rs as with
         | none=>rfl
         | some b=>
           obtain⟨k,h1,_⟩:=fX q
           rw[mY h1]at h';cases h'.2
        simp[kW,hl,iY]
       ·have:¬ i=j:=fun z=>hj z.symm
        simp[kW,hj,iY,this]
theorem bD9{rs:List Res}{as:List Sl}{σ:Sg}(h:eM rs=true):iL rs as 0 σ=sB rs as σ:=by
 apply List.ext_getElem?
 intro j
 rw[iZ,yW rs as σ j h,Nat.zero_add]
noncomputable def BK(rs:List Res)(as:List Sl)(σ:Sg)(K:Sg->Prop):Prop:=K (sB rs as σ)
noncomputable def bK8(as:List Sl)(K:Res->List Sl->Prop):Out->Prop
 | .nx σ=>K (.val .non) (nQ as σ)
 | .rt r σ=>OK1 (bX3 σ r) fun r'=>K r' (nQ as σ)
 | _=>False
section
variable{σ:Sg}{Q:Res->Sg->Prop}{ra:DA}{d:D}{i n:Nat}{r:Sg}{o:Option Sl}
theorem vX{run:Run}:RE (aX n run ra) σ Q=RA ra σ fun rs σ1=>AK σ1 rs fun as=>(as.length=n/\eM rs=true)/\CK run as fun y as'=>BK rs as' σ1 fun σ2=>Q y σ2:=by
 unfold RE RA AK CK aX
 simp only[aO,bZ,cF]
 congr 1;funext x;congr 1;funext as
 apply propext
 constructor
 ·rintro⟨h,q⟩
  refine⟨h,cG q fun y q=>?_⟩
  unfold BK;rw[← bD9 h.2];exact q
 ·rintro⟨h,q⟩
  refine⟨h,cG q fun y q=>?_⟩
  unfold BK at q;rw[← bD9 h.2]at q;exact q
theorem aQ3{as:List Sl}{K:Sg->Prop}:BK [] as σ K=K σ:=by cases as<;>rfl
theorem aQ4{rs:List Res}{a:Sl}{as:List Sl}{K:Sg->Prop}:BK (.val d::rs) (a::as) σ K=BK rs as σ K:=rfl
theorem aQ5{rs:List Res}{a:Sl}{as:List Sl}{K:Sg->Prop}:BK (.own d::rs) (a::as) σ K=BK rs as σ K:=rfl
theorem aQ6{rs:List Res}{m:Md}{as:List Sl}{K:Sg->Prop}:BK (.slot i::rs) (⟨m,d⟩::as) σ K=UK i σ d fun σ'=>BK rs as σ' K:=by
 rw[cH4];rfl
theorem aQ7{e:D}{K:Sg->Prop}:UK 0 (some ⟨.own,e⟩::r) d K=K (some ⟨.own,d⟩::r):=rfl
theorem aQ8{e:D}{K:Sg->Prop}:UK 0 (some ⟨.par,e⟩::r) d K=K (some ⟨.par,d⟩::r):=rfl
theorem aQ9{e:D}{K:Sg->Prop}:UK 0 (some ⟨.val,e⟩::r) d K=K (some ⟨.val,e⟩::r):=rfl
theorem aR0{e:D}{K:Sg->Prop}:UK 0 (some ⟨.lent,e⟩::r) d K=K (some ⟨.lent,e⟩::r):=rfl
theorem aR1{K:Sg->Prop}:UK (n+1) (o::r) d K=UK n r d fun r'=>K (o::r'):=rfl
theorem fJ{len:Nat}{b:DS}{as:List Sl}{K:Res->List Sl->Prop}:CK (pQ len b) as K=RS b (ini len as) (bK8 as K):=by
 unfold CK RS pQ
 rw[aO]
 congr 1;funext o
 cases o with
 | rt x s=>show OK1 ((bX3 s x).bind _) _=OK1 (bX3 s x) _;rw[aO];rfl
 | _=>rfl
noncomputable def FSK:Nat->Sg->(Res->Prop)->Prop
 | 0,some ⟨.own,d⟩::_,K=>K (.own d)
 | 0,some ⟨.val,d⟩::_,K=>K (.val d)
 | n+1,_::r,K=>FSK n r K
 | _,_,_=>False
theorem bK9:∀ (n:Nat) (r:Sg) (K:Res->Prop),FSK n r K=OK1 (bX3 r (.slot n)) K
 | 0,[],_=>rfl
 | 0,none::_,_=>rfl
 | 0,some ⟨.val,_⟩::r,K=>rfl
 | 0,some ⟨.own,_⟩::r,K=>rfl
 | 0,some ⟨.par,_⟩::r,K=>rfl
 | 0,some ⟨.lent,_⟩::r,K=>rfl
 | n+1,[],_=>rfl
 | n+1,o::r,K=>by
   show FSK n r K=_
   rw[bK9 n r K]
   show OK1 (match r[n]? with | some (some s)=>if s.m=.own then some (Res.own s.d)else if s.m=.val then some (.val s.d)else none | _=>none) K=OK1 (match (o::r)[n+1]? with | some (some s)=>if s.m=.own then some (Res.own s.d)else if s.m=.val then some (.val s.d)else none | _=>none) K
   rw[List.getElem?_cons_succ]
section
variable{as:List Sl}{K:Res->List Sl->Prop}{KR:Res->Prop}
theorem vY:bK8 as K (.nx σ)=K (.val .non) (nQ as σ):=rfl
theorem vZ:bK8 as K (.rt (.val d) σ)=K (.val d) (nQ as σ):=rfl
theorem wA:bK8 as K (.rt (.own d) σ)=K (.own d) (nQ as σ):=rfl
theorem wB:bK8 as K (.rt (.slot i) σ)=FSK i σ fun r=>K r (nQ as σ):=(bK9 i σ _).symm
theorem aR2:FSK 0 (some ⟨.own,d⟩::r) KR=KR (.own d):=rfl
theorem aR3:FSK 0 (some ⟨.val,d⟩::r) KR=KR (.val d):=rfl
theorem aR4:FSK (n+1) (o::r) KR=FSK n r KR:=rfl
theorem wC:nQ [] σ=[]:=rfl
theorem wD{s:Sl}:nQ (⟨.val,d⟩::as) (some s::r)=⟨.val,d⟩::nQ as r:=rfl
theorem wE{s:Sl}:nQ (⟨.par,d⟩::as) (some s::r)=s::nQ as r:=rfl
theorem wF{s:Sl}:nQ (⟨.lent,d⟩::as) (some s::r)=s::nQ as r:=rfl
end
theorem aR5{K:List Sl->Prop}:AK σ [] K=K []:=rfl
theorem aR6{x:Res}{xs:List Res}{K:List Sl->Prop}:AK σ (x::xs) K=A1 σ x fun a=>AK σ xs fun as=>K (a::as):=by
 show OK1 ((vE σ x).bind fun a=>(nR σ xs).bind fun as=>some (a::as)) K=_
 unfold AK A1;simp only[aO,cF]
theorem aR7{K:Sl->Prop}:A1 σ (.val d) K=K ⟨.val,d⟩:=rfl
theorem aR8{K:Sl->Prop}:A1 σ (.own d) K=K ⟨.par,d⟩:=rfl
theorem aR9{K:Sl->Prop}:A1 σ (.slot i) K=HK i σ K:=(cH3 i σ K).symm
theorem aS0{K:Sl->Prop}:HK 0 (some ⟨.own,d⟩::r) K=K ⟨.par,d⟩:=rfl
theorem aS1{K:Sl->Prop}:HK 0 (some ⟨.par,d⟩::r) K=K ⟨.par,d⟩:=rfl
theorem aS2{K:Sl->Prop}:HK 0 (some ⟨.lent,d⟩::r) K=K ⟨.lent,d⟩:=rfl
theorem aS3{K:Sl->Prop}:HK (n+1) (o::r) K=HK n r K:=rfl
end
section
variable{σ:Sg}{QS:Out->Prop}{Q:Res->Sg->Prop}{ri:DI}{g:DG}{b:DS}{a:DE}{ra:DA}
theorem cH6:RS (rT ri g b) σ QS=RI ri σ fun items l σ1=>OK1 (aJ5 g b items (lendO l σ1)) fun o=>QS (pO l σ1 o):=by
 unfold RS RI rT;simp only[aO,cF]
theorem bS4{K:List D->Option Nat->Sg->Prop}:RI (dIt a) σ K=RE a σ fun x σ1=>RD σ1 x fun d=>OK1 (sS d) fun l=>K l (match x with | .slot i=>some i | _=>none) σ1:=by
 unfold RI RE RD dIt;simp only[aO,cF];try rfl
noncomputable def cQ1:List D->Option (List D)
 | [.int j]=>if -(2 ^ 62)<=j/\j < 2 ^ 62 then some (nO 0 j.toNat)else none
 | [.int i,.int j]=>if(-(2 ^ 62)<=i/\i < 2 ^ 62) /\ -(2 ^ 62)<=j/\j < 2 ^ 62 then some (nO i (j-i).toNat)else none
 | _=>none
theorem aS4{K:List D->Option Nat->Sg->Prop}:RI (yL ra) σ K=RA ra σ fun xs σ1=>RDs σ1 xs fun ds=>OK1 (cQ1 ds) fun l=>K l none σ1:=by
 unfold RI RA RDs yL
 simp only[aO]
 congr 1;funext x;congr 1;funext ds
 match ds with
 | []=>rfl
 | [.int j]=>show OK1 (if -(2 ^ 62)<=j/\j < 2 ^ 62 then _ else none) _=OK1 (if -(2 ^ 62)<=j/\j < 2 ^ 62 then _ else none) _;rw[bZ,bZ];rfl
 | [.int i,.int j]=>show OK1 (if(-(2 ^ 62)<=i/\i < 2 ^ 62) /\ -(2 ^ 62)<=j/\j < 2 ^ 62 then _ else none) _=OK1 (if(-(2 ^ 62)<=i/\i < 2 ^ 62) /\ -(2 ^ 62)<=j/\j < 2 ^ 62 then _ else none) _;rw[bZ,bZ];rfl
 | [.non]=>rfl
 | [.bl _]=>rfl
 | [.str _]=>rfl
 | [.tup _]=>rfl
 | [.lst _]=>rfl
 | [.dic _ _]=>rfl
 | .non::_::_=>rfl
 | .bl _::_::_=>rfl
 | .str _::_::_=>rfl
 | .tup _::_::_=>rfl
 | .lst _::_::_=>rfl
 | .dic _ _::_::_=>rfl
 | .int _::.non::_=>rfl
 | .int _::.bl _::_=>rfl
 | .int _::.str _::_=>rfl
 | .int _::.tup _::_=>rfl
 | .int _::.lst _::_=>rfl
 | .int _::.dic _ _::_=>rfl
 | .int _::.int _::_::_=>rfl
theorem wG{j:Int}{K:List D->Prop}:OK1 (cQ1 [.int j]) K=((-(2 ^ 62)<=j/\j < 2 ^ 62)/\K (nO 0 j.toNat)):=by
 show OK1 (if -(2 ^ 62)<=j/\j < 2 ^ 62 then some (nO 0 j.toNat)else none) K=_
 rw[bZ];rfl
theorem wH{i j:Int}{K:List D->Prop}:OK1 (cQ1 [.int i,.int j]) K=(((-(2 ^ 62)<=i/\i < 2 ^ 62) /\ -(2 ^ 62)<=j/\j < 2 ^ 62)/\K (nO i (j-i).toNat)):=by
 show OK1 (if(-(2 ^ 62)<=i/\i < 2 ^ 62) /\ -(2 ^ 62)<=j/\j < 2 ^ 62 then some (nO i (j-i).toNat)else none) K=_
 rw[bZ];rfl
theorem bS5{items:List D}(P:Nat->Sg->Prop)(h0:P 0 σ)(hs:∀ i d σ,items[i]? = some d->P i σ->OK1 (g d σ) fun σ1=>RS b σ1 fun o=>∃ σ2,(o=.nx σ2\/o=.ct σ2)/\P (i+1) σ2){K:Out->Prop}(k:∀ σ',P items.length σ'->K (.nx σ')):OK1 (aJ5 g b items σ) K:=by
 induction items generalizing P σ with
 | nil=>exact k σ h0
 | cons d r ih=>
   show OK1 ((g d σ).bind _) K
   rw[aO]
   refine cG (hs 0 d σ rfl h0) fun σ1 h1=>?_
   rw[aO]
   refine cG h1 fun o h2=>?_
   obtain⟨σ2,ho,p2⟩:=h2
   have go:OK1 (aJ5 g b r σ2) K:=ih (fun i=>P (i+1)) p2 (fun i d σ e p=>hs (i+1) d σ (by simpa using e) p) fun σ' p=>k σ' (by simpa using p)
   rcases ho with rfl | rfl
   ·exact go
   ·exact go
theorem bS6{items:List D}(P:Nat->Sg->Prop){K:Out->Prop}(h0:P 0 σ)(hs:∀ i d σ,items[i]? = some d->P i σ->OK1 (g d σ) fun σ1=>RS b σ1 fun o=>(∃ σ2,(o=.nx σ2\/o=.ct σ2)/\P (i+1) σ2)\/(∃ x σ2,o=.rt x σ2/\K (.rt x σ2))\/(∃ σ2,o=.bk σ2/\K (.nx σ2)))(k:∀ σ',P items.length σ'->K (.nx σ')):OK1 (aJ5 g b items σ) K:=by
 induction items generalizing P σ with
 | nil=>exact k σ h0
 | cons d r ih=>
   show OK1 ((g d σ).bind _) K
   rw[aO]
   refine cG (hs 0 d σ rfl h0) fun σ1 h1=>?_
   rw[aO]
   refine cG h1 fun o h2=>?_
   rcases h2 with⟨σ2,ho,p2⟩ | ⟨x,σ2,rfl,q⟩ | ⟨σ2,rfl,q⟩
   ·have go:OK1 (aJ5 g b r σ2) K:=ih (fun i=>P (i+1)) p2 (fun i d σ e p=>hs (i+1) d σ (by simpa using e) p) fun σ' p=>k σ' (by simpa using p)
    rcases ho with rfl | rfl
    ·exact go
    ·exact go
   ·exact q
   ·exact q
theorem pS{c:DT}{K:Out->Prop}(P:Nat->Sg->Prop)(hs:∀ m σ,P m σ->RT c σ fun t σ1=>if t=true then RS b σ1 fun o=>(∃ σ2 m',(o=.nx σ2\/o=.ct σ2)/\m' < m/\P m' σ2)\/(∃ x σ2,o=.rt x σ2/\K (.rt x σ2))\/(∃ σ2,o=.bk σ2/\K (.nx σ2))else K (.nx σ1)) :
  ∀ (n m:Nat) (σ:Sg),m < n->P m σ->OK1 (mD c b n σ) K
 | 0,m,σ,h,_=>by omega
 | n+1,m,σ,h,p=>by
   show OK1 ((c σ).bind _) K
   rw[aO]
   refine cG (hs m σ p) fun x h1=>?_
   dsimp only at h1
   by_cases ht:x.1=true
   ·rw[if_pos ht]at h1 ⊢
    rw[aO]
    refine cG h1 fun o h2=>?_
    rcases h2 with⟨σ2,m',ho,hm,p2⟩ | ⟨x,σ2,rfl,q⟩ | ⟨σ2,rfl,q⟩
    ·have go:=pS P hs n m' σ2 (by omega) p2
     rcases ho with rfl | rfl
     ·exact go
     ·exact go
    ·exact q
    ·exact q
   ·rw[if_neg ht]at h1 ⊢
    exact h1
theorem aS5{c:DT}(P:Nat->Sg->Prop)(m:Nat)(hm:m < 1000000)(h0:P m σ)(hs:∀ m σ,P m σ->RT c σ fun t σ1=>if t=true then RS b σ1 fun o=>(∃ σ2 m',(o=.nx σ2\/o=.ct σ2)/\m' < m/\P m' σ2)\/(∃ x σ2,o=.rt x σ2/\QS (.rt x σ2))\/(∃ σ2,o=.bk σ2/\QS (.nx σ2))else QS (.nx σ1)):OK1 (mD c b bX2 σ) QS:=
 pS P hs bX2 m σ (Nat.lt_of_lt_of_le hm bQ8) h0
theorem bS7{ow:List Nat}{t:DT}{e:DE}:RE (dE ow ri g t e) σ Q=RI ri σ fun items l σ1=>items.length<=sizeLine/\OK1 (vC ow g t e items (bY ow (lendO l σ1))) fun y=>Q (.own (.lst y.1)) (pN l σ1 (jX ow (lendO l σ1) y.2)):=by
 unfold RE RI dE;simp only[aO,bZ,cF]
theorem nU{ow:List Nat}{t:DT}{e:DE}{K:List D×Sg->Prop}:∀ (items:List D) (τ:Sg) (P:Nat->List D->Sg->Prop),P 0 [] τ ->
  (∀ i d acc τ,items[i]? = some d->P i acc τ->OK1 (g d τ) fun τ1=>RT t τ1 fun b τ2=>if b=true then RE e τ2 fun r τ3=>∃ v,r=.val v/\P (i+1) (acc++[v]) (bY ow τ3)else P (i+1) acc (bY ow τ2)) ->
  (∀ acc τ,P items.length acc τ->K (acc,τ))->OK1 (vC ow g t e items τ) K
 | [],τ,P,h0,_,k=>k [] τ h0
 | d::r,τ,P,h0,hs,k=>by
   show OK1 ((g d τ).bind _) K
   rw[aO]
   refine cG (hs 0 d [] τ rfl h0) fun τ1 h1=>?_
   rw[aO]
   refine cG h1 fun x h2=>?_
   dsimp only at h2
   by_cases ht:x.1=true
   ·rw[if_pos ht]at h2 ⊢
    rw[aO]
    refine cG h2 fun y h3=>?_
    obtain⟨v,hv,p⟩:=h3
    rw[hv]
    dsimp only
    rw[aO]
    exact nU r _ (fun i acc τ=>P (i+1) (v::acc) τ) p (fun i d' acc τ' e' p'=>by simpa using hs (i+1) d' (v::acc) τ' (by simpa using e') p') fun acc τ' p'=>k (v::acc) τ' (by simpa using p')
   ·rw[if_neg ht]at h2 ⊢
    exact nU r _ (fun i acc τ=>P (i+1) acc τ) h2 (fun i d' acc τ' e' p'=>hs (i+1) d' acc τ' (by simpa using e') p') fun acc τ' p'=>k acc τ' (by simpa using p')
end
section
variable{i j:Int}{l m:List D}{K:Res->Prop}{d e:D}{σ:Sg}{Q:Res->Sg->Prop}
theorem aS6:OK1 (gD (.int i) (.int j)) K=K (.val (.int (i+j))):=rfl
theorem wI:OK1 (gD (.lst l) (.lst m)) K=(l.length+m.length<=sizeLine/\K (.own (.lst (l++m)))):=by
 show OK1 (if l.length+m.length<=sizeLine then some (Res.own (.lst (l++m)))else none) K=_;rw[bZ];rfl
theorem wJ{x y:Str}:OK1 (gD (.str x) (.str y)) K=(x.length+y.length<=sizeLine/\K (.val (.str (x++y)))):=by
 show OK1 (if x.length+y.length<=sizeLine then some (Res.val (.str (x++y)))else none) K=_;rw[bZ];rfl
theorem aS7:OK1 (cF7 (.int i) (.int j)) K=K (.val (.int (i-j))):=rfl
theorem aS8:OK1 (vH (.int i) (.int j)) K=(pB i j/\K (.val (.int (i*j)))):=@bZ _ (pB i j) (Classical.propDecidable _) _ _
theorem aS9:OK1 (cM4 (.int i) (.int j)) K=(aA7 i j/\K (.val (.int (i / j)))):=@bZ _ (aA7 i j) (Classical.propDecidable _) _ _
theorem aT0:OK1 (aC9 (.int i) (.int j)) K=(0 < j/\K (.val (.int (i % j)))):=@bZ _ (0 < j) (Classical.propDecidable _) _ _
theorem aT1:OK1 (cP6 (.int i) (.int j)) K=(bW9 i j/\K (.val (.int (i ^ j.toNat)))):=@bZ _ (bW9 i j) (Classical.propDecidable _) _ _
theorem bS8:OK1 (ltI (.int i) (.int j)) K=K (.val (.bl (decide (i < j)))):=rfl
theorem bS9:OK1 (leI (.int i) (.int j)) K=K (.val (.bl (decide (i<=j)))):=rfl
theorem bT0:OK1 (gtI (.int i) (.int j)) K=K (.val (.bl (decide (j < i)))):=rfl
theorem bT1:OK1 (geI (.int i) (.int j)) K=K (.val (.bl (decide (j<=i)))):=rfl
theorem aT2:OK1 (cM3 (.int i)) K=K (.val (.int (-i))):=rfl
theorem aT3:OK1 (ixD (.lst l) (.int i)) K=OK1 (atI l i) fun d=>K (.val d):=by
 show OK1 ((atI l i).map Res.val) K=_;rw[sZ]
theorem aT4:OK1 (ixD (.tup l) (.int i)) K=OK1 (atI l i) fun d=>K (.val d):=by
 show OK1 ((atI l i).map Res.val) K=_;rw[sZ]
theorem wK:OK1 (iR [.lst l]) K=K (.val (.int l.length)):=rfl
theorem wL:OK1 (iR [.tup l]) K=K (.val (.int l.length)):=rfl
theorem aT5:OK1 (bK6 [.int i]) K=K (.val (.int i)):=rfl
theorem wM{b:Bool}:OK1 (bK6 [.bl b]) K=K (.val (.int (if b then 1 else 0))):=rfl
theorem aT6:OK1 (aK3 [.int i,.int j]) K=K (.val (.int (if j > i then j else i))):=rfl
theorem aT7:OK1 (aA4 [.int i,.int j]) K=K (.val (.int (if j < i then j else i))):=rfl
theorem wN:OK1 (lO [.lst l]) K=K (.own (.lst l)):=rfl
theorem rE:OK1 (lO [.tup l]) K=K (.own (.lst l)):=rfl
theorem aT8:OK1 (bA5 [.lst l]) K=K (.val (.tup l)):=rfl
theorem wO:OK1 (bA5 [.tup l]) K=K (.val (.tup l)):=rfl
theorem bT2:OK1 (eqD false (.int i) (.int j)) K=K (.val (.bl (decide (i=j)))):=by
 have h:uF (.int i) (.int j)=decide (i=j):=by
  show(i==j)=_
  rw[Bool.eq_iff_iff];simp
 show OK1 (if jA (.int i)=true/\jA (.int j)=true then some (Res.val (.bl (if false then !uF (.int i) (.int j)else uF (.int i) (.int j))))else none) K=_
 rw[if_pos ⟨rfl,rfl⟩,h];rfl
theorem aT9{c:String}:OK1 (cG4 c (.int i)) K=K (.val (.bl (nJ "int" c))):=rfl
theorem aU0{c:String}{b:Bool}:OK1 (cG4 c (.bl b)) K=K (.val (.bl (nJ "bool" c))):=rfl
theorem aU1{k:Int}{K:D×D->Prop}:OK1 ((cG6 k e (.lst l)).map fun b=>(b,D.non)) K=OK1 (ixN l.length k) fun j=>K (.lst (l.set j e),.non):=by
 show OK1 (((ixN l.length k).map fun j=>D.lst (l.set j e)).map fun b=>(b,D.non)) K=_
 rw[sZ,sZ]
theorem aU2{K:D×D->Prop}:OK1 (aA5 (.lst l) [e]) K=(l.length < sizeLine/\K (.lst (l++[e]),.non)):=by
 show OK1 (if l.length < sizeLine then some (D.lst (l++[e]),D.non)else none) K=_
 rw[bZ];rfl
theorem aU3{bs:List Bool}:OK1 (cG3 [.lst (bs.map D.bl)]) K=K (.val (.bl (bs.all id))):=by
 show OK1 ((aA3 (bs.map D.bl)).map fun bs=>Res.val (.bl (bs.all id))) K=_
 rw[aK1];rfl
noncomputable def SK(d:D)(lo hi:Option Int)(K:Res->Prop):Prop:=OK1 (slD d lo hi) K
theorem bT3{a:DE}{x y:DO}:RE (dSl a x y) σ Q=RE a σ fun r σ1=>RO x σ1 fun lo σ2=>RO y σ2 fun hi σ3=>RD σ3 r fun d=>SK d lo hi fun v=>Q v σ3:=by
 unfold RE RO RD SK dSl;simp only[aO,cF]
theorem aU4{K:Option Int->Sg->Prop}:RO oZ σ K=K none σ:=rfl
theorem cQ2{a:DE}{K:Option Int->Sg->Prop}:RO (dP a) σ K=RE a σ fun x σ1=>RD σ1 x fun d=>OK1 (match d with | .int k=>some k | _=>none) fun k=>K (some k) σ1:=by
 unfold RO RE RD dP
 simp only[aO]
 congr 1;funext x;congr 1;funext d
 cases d<;>rfl
theorem aU5{lo hi:Option Int}:SK (.lst l) lo hi K=K (.own (.lst (sV l lo hi))):=rfl
theorem aU6{lo hi:Option Int}:SK (.tup l) lo hi K=K (.val (.tup (sV l lo hi))):=rfl
theorem aU7{x:D}{K:D->Prop}:OK1 (atI (x::l) 0) K=K x:=by
 show OK1 ((ixN (x::l).length 0).bind fun j=>(x::l)[j]?) K=_
 unfold ixN
 rw[if_pos (Int.le_refl 0),if_pos (by first | (simp;done) | (simp;omega))];rfl
theorem aU8{x y:D}{K:D->Prop}:OK1 (atI (x::y::l) 1) K=K y:=by
 show OK1 ((ixN (x::y::l).length 1).bind fun j=>(x::y::l)[j]?) K=_
 unfold ixN
 rw[if_pos (by decide),if_pos (by first | (simp;done) | (simp;omega))];rfl
theorem aU9{x:D}{K:Nat->Prop}:OK1 (ixN (x::l).length 0) K=K 0:=by
 unfold ixN
 rw[if_pos (Int.le_refl 0),if_pos (by first | (simp;done) | (simp;omega))];rfl
theorem aV0{x y:D}{K:Nat->Prop}:OK1 (ixN (x::y::l).length 1) K=K 1:=by
 unfold ixN
 rw[if_pos (by decide),if_pos (by first | (simp;done) | (simp;omega))];rfl
theorem aV1{i j:Int}(h1:-(2 ^ 64) < j)(h2:j < 2 ^ 64):pB i j=True:=eq_true (.inl (.inr ⟨h1,h2⟩))
theorem aV2{i j:Int}(h1:-(2 ^ 64) < i)(h2:i < 2 ^ 64):pB i j=True:=eq_true (.inl (.inl ⟨h1,h2⟩))
theorem aV3{i:Int}{p:Prop}[Decidable p]:pB i (if p then 1 else 0)=True:=eq_true (.inl (.inr (by split<;>decide)))
theorem bE0{i j:Int}(h1:0 < j)(h2:j < 18446744073709551616):aA7 i j=True:=eq_true ⟨h1,h2⟩
theorem bT4{i j:Int}(h1:0<=j)(h2:j<=1000000)(h3:-18446744073709551616 < i)(h4:i < 18446744073709551616):bW9 i j=True:=eq_true ⟨h1,h2,by show i.natAbs < 18446744073709551616;omega⟩
theorem aV4{σ:Sg}:lendO none σ=σ:=rfl
theorem bT5{σ:Sg}{o:Out}:pO none σ o=o:=by cases o<;>rfl
theorem aV5{σ σ':Sg}:pN none σ σ'=σ':=rfl
theorem aV6:(tyD "list" (.lst l)=true)=True:=by simp[tyD]
end
noncomputable def aA9:List D->Option (List Str)
 | []=>some []
 | .str s::r=>(aA9 r).bind fun l=>some (s::l)
 | _::_=>none
theorem yX:∀ {l:List D} {zs:List Str},aA9 l=some zs->l=zs.map D.str
 | [],_,h=>by cases h;rfl
 | .str s::r,_,h=>by
   obtain⟨l,e1,e2⟩:=aD h
   cases e2
   rw[yX e1];rfl
 | .non::_,_,h=>by cases h
 | .int _::_,_,h=>by cases h
 | .bl _::_,_,h=>by cases h
 | .tup _::_,_,h=>by cases h
 | .lst _::_,_,h=>by cases h
 | .dic _ _::_,_,h=>by cases h
theorem aV7(zs:List Str):aA9 (zs.map D.str)=some zs:=by
 induction zs with
 | nil=>rfl
 | cons b r ih=>show(aA9 (r.map D.str)).bind _=_;rw[ih];rfl
noncomputable def aV8(sep:Str):F1:=fun d=>match d with
 | .lst l=>(aA9 l).bind fun ys=>if(ys.map (·.length)).sum+ys.length*sep.length<=16777216 then some (.val (.str (PySem.Txt.join sep ys)))else none
 | _=>none
theorem bT6{X:Cx}{e:Expr}{sep:Str}{r:DE}(K:PySem.W.Frag)(h:∀ Γ,PE X e (tBM K "str" (bB8 K) (tC (.str sep)) (dTA Γ (aC r aN)))):GE X e (bA1 (aV8 sep) r):=.mk fun Γ=>peW (h Γ) fun σV H Q hq=>by
 have hp:bX1 (fun x H Q=>bB8 K (.str sep) [x] H Q) (aV8 sep):=by
  intro H d x Q res v1 e k
  unfold aV8 at e
  split at e
  ·obtain⟨ys,e1,e⟩:=aD e
   split at e
   ·rename_i hs
    cases e
    obtain⟨p,xs,rfl,h1,r1⟩:=gK v1
    rw[yX e1]at r1
    rw[r1.strs_inv]at h1
    exact⟨sep,p,ys,rfl,rfl,fD h1,hs,k _ H (.refl _) (.str _)⟩
   ·cases e
  ·cases e
 obtain⟨σ,ok,res,σ',e,k⟩:=hq
 obtain⟨⟨x,σ1⟩,e1,e⟩:=aD e
 obtain⟨d1,e3,e⟩:=aD e
 obtain⟨r,e5,e⟩:=aD e
 cases e
 refine⟨rfl,σ,ok,[x],σ1,?_,fun vs H1 ok1 r1 st1 _=>?_⟩
 ·show((_:Option _).bind _)=_
  rw[e1];rfl
 ·cases r1 with
  | cons r1 t=>
    cases t
    refine hp H1 d1 _ Q _ (r1.vw ok1 e3) e5 fun v H' sm nw=>?_
    exact k v H' (ok1.same sm) (nw.res ok1) (st1.trans (.same sm)) (nw.frh.back st1)
theorem bT7{sep:Str}{zs:List Str}{K:Res->Prop}:OK1 (aV8 sep (.lst (zs.map D.str))) K=((zs.map (·.length)).sum+zs.length*sep.length<=16777216/\K (.val (.str (PySem.Txt.join sep zs)))):=by
 show OK1 ((aA9 (zs.map D.str)).bind _) K=_
 rw[aV7]
 show OK1 (if _ then _ else none) K=_
 rw[bZ];rfl
theorem bE1{X:Cx}(K:PySem.W.Frag)(hK:X.K=K):MtR X "str.join" (bB8 K):=by rw[← hK];exact bO4
theorem bL0{H:Hp}:∀ {l:List D} {xs:List V},l.length=xs.length->(∀ (j:Nat) d x,l[j]? = some d->xs[j]? = some x->Rp H d x)->Rps H l xs
 | [],[],_,_=>.nil
 | [],_::_,e,_=>by simp at e
 | _::_,[],e,_=>by simp at e
 | d::l,x::xs,e,h=>.cons (h 0 d x rfl rfl) (bL0 (by simpa using e) fun j d' x' e1 e2=>h (j+1) d' x' (by simpa using e1) (by simpa using e2))
section
variable{σ:Sg}{Q:Res->Sg->Prop}{ra:DA}
end
end Dv
namespace PySem
section
variable{prog:Program}{w:World}{A:Around}{E:Value->Shared->Prop}{s:Shared}
theorem bE2{it t:Addr}{i:Nat}{its:Array Value}{x:Value}{Q:Value->Shared->Prop}(hit:s.heap.IsTupleIter it t i)(ht:s.heap.IsTuple t its)(hx:its[i]? = some x)
  (q:∀ h',h'.IsTupleIter it t (i+1)->Heap.SameBut it s.heap h'->Q x {s with heap:=h'}):wpAny (model prog w) A (Builtin.SmallTypes.nextOf (.ref it)) Q E s:=by
 obtain⟨o,ho,hc,hd⟩:=id hit
 obtain⟨ot,hot,_,nt,hdt⟩:=ht
 unfold Builtin.SmallTypes.nextOf
 refine wpAny_bind (wpAny_callSpecial?_slot (name:=Str.ofString "__next__") hit.typeIs F.slot_tuple_iterator_next (wpAny_call_entry F.slot_tuple_iterator_next hit.typeIs F.entry_tuple_iterator_next ?_ (F.args_tuple_iterator_next_1 _)))
 show wpAny _ _ (field (.ref it) 0 >>= _) _ _ s;refine wpAny_bind (wpAny_field ho hd (x:=.ref t) rfl ?_)
 show wpAny _ _ (if(Value.ref t==Value.none)=true then _ else _) _ _ s;rw[if_neg (show ¬ ((Value.ref t==Value.none)=true)from Bool.false_ne_true)]
 show wpAny _ _ (field (.ref it) 1 >>= _) _ _ s;refine wpAny_bind (wpAny_field ho hd (x:=.int i 0) rfl ?_)
 show wpAny _ _ (seqItems? (.ref t) >>= _) _ _ s;refine wpAny_bind (wpAny_seqItems hot hdt ?_);simp only[Int.toNat_natCast,hx]
 refine wpAny_bind (wpAny_setField ho hd (by simp) (wpAny_pure ⟨x,rfl,wpAny_pure (q _ ⟨_,Heap.get?_update_self _ ho (Obj.isFreed_of_fields (Obj.data_mapFields hd _)),(Obj.cls_mapFields ..).trans hc,by rw[Obj.data_mapFields hd];simp[rawInt]⟩ (Heap.SameBut.update ..))⟩))
theorem tD{it t:Addr}{i:Nat}{its:Array Value}{Q:Value->Shared->Prop}(hh:A.handled=none)(hit:s.heap.IsTupleIter it t i)(ht:s.heap.IsTuple t its)(hx:its[i]? = none)
  (q:∀ h' e,Heap.ExtBut it s.heap h'->(∃ o,h'.get? e=some o/\o.cls=.type "StopIteration")->E (.ref e) {s with heap:=h'}):wpAny (model prog w) A (Builtin.SmallTypes.nextOf (.ref it)) Q E s:=by
 obtain⟨o,ho,hc,hd⟩:=id hit
 obtain⟨ot,hot,_,nt,hdt⟩:=ht
 unfold Builtin.SmallTypes.nextOf
 refine wpAny_bind (wpAny_callSpecial?_slot (name:=Str.ofString "__next__") hit.typeIs F.slot_tuple_iterator_next (wpAny_call_entry F.slot_tuple_iterator_next hit.typeIs F.entry_tuple_iterator_next ?_ (F.args_tuple_iterator_next_1 _)))
 show wpAny _ _ (field (.ref it) 0 >>= _) _ _ s;refine wpAny_bind (wpAny_field ho hd (x:=.ref t) rfl ?_)
 show wpAny _ _ (if(Value.ref t==Value.none)=true then _ else _) _ _ s;rw[if_neg (show ¬ ((Value.ref t==Value.none)=true)from Bool.false_ne_true)]
 show wpAny _ _ (field (.ref it) 1 >>= _) _ _ s;refine wpAny_bind (wpAny_field ho hd (x:=.int i 0) rfl ?_)
 show wpAny _ _ (seqItems? (.ref t) >>= _) _ _ s;refine wpAny_bind (wpAny_seqItems hot hdt ?_);simp only[Int.toNat_natCast,hx]
 refine wpAny_bind (wpAny_rule (wpAny_bind (wpAny_setField ho hd (by simp) ?_)))
 show wpAny _ _ (newExc (.type "StopIteration") [] >>= _) _ _ _;refine wpAny_bind ?_;simp only[newExc,newTuple]
 refine wpAny_bind (wpAny_newObj_type ?_ (by size_fits));refine wpAny_bind (m:=firstArgMember _ _) (wpAny_of_eq (a:=Value.none) (by first | rfl | (simp only[firstArgMember];rfl)) ?_)
 refine wpAny_newObj_type ?_ (by size_fits);simp only[raiseNew];refine wpAny_bind (wpAny_handled ?_)
 rw[show A.in1.handled=none from hh];refine wpAny_bind (wpAny_pure (wpAny_throw ?_))
 exact q _ _ (((Heap.SameBut.update ..).extBut.push _).push _) ⟨_,Heap.get?_push_size _ rfl,rfl⟩
end
theorem Draws.tup{prog:Program}{w:World}{A:Around}(hh:A.handled=none)(it t:Addr)(hne:t≠it)(its:Array Value) :
  Draws prog w A it [it,t] its.size (fun i v=>its[i]? = some v) (fun i h=>h.IsTupleIter it t i/\h.IsTuple t its) where
 live:=fun _ _ st=>st.1.imp fun _ z=>z.1
 frame:=fun _ _ _ st hk=>⟨st.1.at fun o e=>hk it (by simp) o e,st.2.at fun o e=>hk t (by simp) o e⟩
 item:=fun i s Q E hi st hQ=>bE2 st.1 st.2 (x:=its[i]) (by simp[hi]) fun h' hit' hs'=>hQ _ h' s.toks (by simp[hi]) ⟨hit',st.2.at fun o e=>(hs'.2 t hne).trans e⟩ hs'
 done:=fun s Q E st hE=>tD hh st.1 st.2 (by simp) hE
end PySem
namespace L2
open PySem PyProof.Rows
section
variable{X:Cx}{pins:List (Addr×Obj)}{σ:St}{H:Hp}{s:Shared}{h':Heap}{ch:List Addr}
theorem Inv.spun{t':Nat}{a:Addr}{o:HO}(I:Inv X pins σ H s)(hf:∀ b∈ch,aD6 X pins H b)(k:∀ b u,b∉ch->s.heap.get? b=some u->h'.get? b=some u)(hp:s.heap.objs.size<=a)
  (new:dQ X.prog X.w (upd H a o) h' a o):Inv X pins σ (upd H a o) {s with heap:=h',toks:=t'}:=by
 have ha:H a=none:=I.hok.fresh hp
 have nch:∀ b u,H b=some u->b∉ch:=fun b u e z=>by rw[(hf b z).1]at e;cases e
 refine I.step (g':=s.gens) (d':=s.drawn) (ch:=ch) (fun b hb=>?_) (fun b u _ _ hc e _=>k b u hc e) (fun b u _ _ hc e _=>⟨u.slots,k b u hc e⟩) (fun b u _ e n=>?_) (fun b u hc e=>⟨u,k b u hc e⟩)
  (fun b xs e=>by rw[aK (bL e ha)];exact e) (fun b u v e=>by rw[aK (bL e ha)];exact e) (fun b ps e=>⟨#[],by rw[aK (bL e ha),e];simp⟩) (fun m hm=>?_) (fun b u e=>?_) I.bare
 ·obtain⟨f0,f1,f2,f3,f4,f5⟩:=hf b hb
  exact⟨f3,f1,f4,f5⟩
 ·rw[aK (Nat.ne_of_lt (Nat.lt_of_lt_of_le (Heap.lt_size e) hp))];exact n
 ·obtain⟨u,es,ep,ho,r⟩:=hm
  exact⟨u,es,ep,k _ u (fun z=>(hf _ z).2.1 rfl) ho,r⟩
 ·by_cases hb:b=a
  ·subst hb;rw[aT]at e;cases e;exact new
  ·rw[aK hb]at e
   refine(I.hok b u e).stay (fun c v hc q=>k c v ?_ q) (fun c q=>by rw[aK (bL q ha)];exact q) fun c xs q=>by rw[aK (bL q ha)];exact q
   rcases hc with z | z
   ·rw[z];exact nch b u e
   ·exact nch c _ z
theorem Inv.spun0{t':Nat}(I:Inv X pins σ H s)(hf:∀ b∈ch,aD6 X pins H b)(k:∀ b u,b∉ch->s.heap.get? b=some u->h'.get? b=some u):Inv X pins σ H {s with heap:=h',toks:=t'}:=by
 have nch:∀ b u,H b=some u->b∉ch:=fun b u e z=>by rw[(hf b z).1]at e;cases e
 refine I.step (g':=s.gens) (d':=s.drawn) (ch:=ch) (fun b hb=>?_) (fun b u _ _ hc e _=>k b u hc e) (fun b u _ _ hc e _=>⟨u.slots,k b u hc e⟩) (fun b u _ e n=>n) (fun b u hc e=>⟨u,k b u hc e⟩)
  (fun b xs e=>e) (fun b u v e=>e) (fun b ps e=>⟨#[],by rw[e];simp⟩) (fun m hm=>?_) (fun b u e=>?_) I.bare
 ·obtain⟨f0,f1,f2,f3,f4,f5⟩:=hf b hb
  exact⟨f3,f1,f4,f5⟩
 ·obtain⟨u,es,ep,ho,r⟩:=hm
  exact⟨u,es,ep,k _ u (fun z=>(hf _ z).2.1 rfl) ho,r⟩
 ·refine(I.hok b u e).stay (fun c v hc q=>k c v ?_ q) (fun c q=>q) fun c xs q=>q
  rcases hc with z | z
  ·rw[z];exact nch b u e
  ·exact nch c _ z
end
noncomputable def cQ3(K:PySem.W.Frag)(a:Addr):It:=
 ⟨fun i H=>∃ xs x,SqT K H a xs/\xs[i]? = some x,fun i H v H'=>∃ T x,v=.ref T/\H T=none/\H'=upd H T (.tup [.int i,x])/\∀ xs,SqT K H a xs->xs[i]? = some x,fun i H=>∃ xs,SqT K H a xs/\xs.length=i⟩
noncomputable def cQ4(K:PySem.W.Frag)(a:Addr):It:=
 ⟨fun i H=>∃ xs x,SqL K H a xs/\xs[i]? = some x,fun i H v H'=>∃ T x,v=.ref T/\H T=none/\H'=upd H T (.tup [.int i,x])/\∀ xs,SqL K H a xs->xs[i]? = some x,fun i H=>∃ xs,SqL K H a xs/\xs.length=i⟩
theorem yY{P:Program}{w:World}{H:Hp}{h h2:Heap}{e it T:Addr}{i:Nat}{tk:Tok}{u:Value}{x:V}(hT:h.get? T=some {cls:=.type "tuple",data:=.seq #[.int i tk,u]})(hs:h2.get? T=h.get? T)(ru:eR x u):dQ P w (upd H T (.tup [.int i,x])) h2 T (.tup [.int i,x]):=by
 have h2':=hs.trans hT
 exact⟨by show 2<=sizeLine;decide,[.int i tk,u],.cons ⟨tk,rfl⟩ (.cons ru .nil),⟨_,h2',rfl,_,rfl⟩,⟨_,h2',rfl⟩⟩
theorem aB0{P:Program}{w:World}{K:PySem.W.Frag}{elts:List Expr}{k:Nat}{pos:Pos}(a e it:Addr)(hei:e≠it) :
  Turn P w K (.Tuple elts k pos) (cQ3 K a) [e,it] e (fun i h=>(∃ old,IsEnum h e it i old)/\h.IsTupleIter it a i) where
 mem:=by simp
 obj:=fun i h st b hb=>by
  obtain⟨⟨old,he⟩,o,ho,c,d⟩:=st
  rcases List.mem_cons.mp hb with z | hb
  ·subst z;exact⟨_,he,fun v z=>by cases z⟩
  ·rw[List.mem_singleton.mp hb];exact⟨o,ho,fun v z=>by rw[d]at z;cases z⟩
 keep:=fun i h h' st k=>by
  obtain⟨⟨old,he⟩,hi⟩:=st
  exact⟨⟨old,k e (by simp) _ he⟩,hi.at fun o q=>k it (by simp) o q⟩
 item:=by
  intro X hP hw hK hc i pins s σ H E I hf st hg
  subst hP hw hK
  obtain⟨⟨old,he⟩,hi⟩:=st
  obtain⟨xs,x,hq,hx⟩:=hg
  obtain⟨its,rv,p,hz⟩:=I.tuple hq
  obtain⟨u,hu,ru⟩:=rv.get hx
  have p':s.heap.IsTuple a its.toArray:=p
  have nai:a≠it:=fun z=>by
   obtain⟨o,h1,h2,_⟩:=p'
   obtain⟨o',h3,h4,_⟩:=id hi
   rw[z,h3]at h1;cases h1;rw[h2]at h4;injection h4 with q;exact absurd q (by decide)
  have nae:e≠a:=fun z=>by
   obtain⟨o,h1,h2,_⟩:=p'
   rw[← z,he]at h1;cases h1;have h2':Value.type "enumerate"=Value.type "tuple":=h2;injection h2' with q;exact absurd q (by decide)
  have hlt:i < its.toArray.size:=by
   have:=(List.getElem?_eq_some_iff.mp hu).1
   simpa using this
  refine wpAny_pyNext_enum_itemD (Draws.tup (A:=X.A.in1) (I.ok.hd hc) it a nai its.toArray) he ⟨hi,p'⟩ hlt hei (by simp[hei,nae]) fun y h1 tk hy ho hs' hT hsz hk=>?_
  obtain rfl:y=u:=by
   rw[List.getElem?_toArray,hu]at hy;exact(Option.some.inj hy).symm
  refine⟨_,rfl,wpAny_letOwnedTupleGo_enum ho fun h2 he2 hs2=>?_⟩
  have hTe:s.heap.objs.size≠e:=fun z=>absurd (Heap.lt_size he) (by rw[← z];exact Nat.lt_irrefl _)
  have ha:H s.heap.objs.size=none:=I.hok.fresh (Nat.le_refl _)
  refine⟨.ref s.heap.objs.size,upd H s.heap.objs.size (.tup [.int i,x]),?_,rfl,⟨_,x,rfl,ha,rfl,fun ys hys=>by rw[I.tuple_inj hys hq];exact hx⟩,⟨⟨_,he2⟩,hs'.1.at fun o q=>(hs2.2 it hei.symm).trans q⟩,fun b hb=>?_⟩
  ·exact I.spun (ch:=[e,it]) (t':=tk+1) hf (fun b u hb q=>(hs2.2 b fun z=>hb (by simp[z])).trans (hk b u (fun z=>hb (by simp[z])) (fun z=>hb (by simp[z])) q)) (Nat.le_refl _) (yY (e:=e) (it:=it) hT (hs2.2 _ hTe) ru)
  ·rw[aK (fun z=>?_)]
   ·exact(hf b hb).1
   ·obtain⟨o,ho⟩:∃ o,s.heap.get? b=some o:=by
     rcases List.mem_cons.mp hb with z | hb
     ·rw[z];exact⟨_,he⟩
     ·rw[List.mem_singleton.mp hb];exact hi.imp fun _ q=>q.1
    exact absurd (Heap.lt_size ho) (by rw[z];exact Nat.lt_irrefl _)
 done:=by
  intro X hP hw hK hc i pins s σ H E I hf st hg
  subst hP hw hK
  obtain⟨⟨old,he⟩,hi⟩:=st
  obtain⟨xs,hq,hx⟩:=hg
  obtain⟨its,rv,p,hz⟩:=I.tuple hq
  have p':s.heap.IsTuple a its.toArray:=p
  have nai:a≠it:=fun z=>by
   obtain⟨o,h1,h2,_⟩:=p'
   obtain⟨o',h3,h4,_⟩:=id hi
   rw[z,h3]at h1;cases h1;rw[h2]at h4;injection h4 with q;exact absurd q (by decide)
  have hl:its.toArray.size=i:=by rw[List.size_toArray,← rv.length];exact hx
  refine wpAny_pyNext_enum_endD (Draws.tup (A:=X.A.in1) (I.ok.hd hc) it a nai its.toArray) he ⟨by rw[hl];exact hi,p'⟩ fun h' hx'=>⟨rfl,I.spun0 (ch:=[e,it]) (t':=s.toks) hf fun b u hb q=>hx' b u (fun z=>hb (by simp[z])) q⟩
 self:=fun _ _ _ _ _ st h=>wpAny_pyIter_enum st.1.choose_spec h
theorem aB1{P:Program}{w:World}{K:PySem.W.Frag}{elts:List Expr}{k:Nat}{pos:Pos}(a e it:Addr)(hei:e≠it) :
  Turn P w K (.Tuple elts k pos) (cQ4 K a) [e,it] e (fun i h=>(∃ old,IsEnum h e it i old)/\h.IsListIter it a i) where
 mem:=by simp
 obj:=fun i h st b hb=>by
  obtain⟨⟨old,he⟩,o,ho,c,d⟩:=st
  rcases List.mem_cons.mp hb with z | hb
  ·subst z;exact⟨_,he,fun v z=>by cases z⟩
  ·rw[List.mem_singleton.mp hb];exact⟨o,ho,fun v z=>by rw[d]at z;cases z⟩
 keep:=fun i h h' st k=>by
  obtain⟨⟨old,he⟩,hi⟩:=st
  exact⟨⟨old,k e (by simp) _ he⟩,hi.at fun o q=>k it (by simp) o q⟩
 item:=by
  intro X hP hw hK hc i pins s σ H E I hf st hg
  subst hP hw hK
  obtain⟨⟨old,he⟩,hi⟩:=st
  obtain⟨xs,x,hq,hx⟩:=hg
  obtain⟨its,rv,p,hz⟩:=I.list hq
  obtain⟨u,hu,ru⟩:=rv.get hx
  have p':s.heap.IsList a its.toArray:=p.isList
  have nai:a≠it:=fun z=>by
   obtain⟨o,h1,h2,_⟩:=p'
   obtain⟨o',h3,h4,_⟩:=id hi
   rw[z,h3]at h1;cases h1;rw[h2]at h4;injection h4 with q;exact absurd q (by decide)
  have nae:e≠a:=fun z=>by
   obtain⟨o,h1,h2,_⟩:=p'
   rw[← z,he]at h1;cases h1;have h2':Value.type "enumerate"=Value.type "list":=h2;injection h2' with q;exact absurd q (by decide)
  have hlt:i < its.toArray.size:=by
   have:=(List.getElem?_eq_some_iff.mp hu).1
   simpa using this
  refine wpAny_pyNext_enum_itemD (Draws.list (A:=X.A.in1) (I.ok.hd hc) it a nai its.toArray) he ⟨hi,p'⟩ hlt hei (by simp[hei,nae]) fun y h1 tk hy ho hs' hT hsz hk=>?_
  obtain rfl:y=u:=by
   rw[List.getElem?_toArray,hu]at hy;exact(Option.some.inj hy).symm
  refine⟨_,rfl,wpAny_letOwnedTupleGo_enum ho fun h2 he2 hs2=>?_⟩
  have hTe:s.heap.objs.size≠e:=fun z=>absurd (Heap.lt_size he) (by rw[← z];exact Nat.lt_irrefl _)
  have ha:H s.heap.objs.size=none:=I.hok.fresh (Nat.le_refl _)
  refine⟨.ref s.heap.objs.size,upd H s.heap.objs.size (.tup [.int i,x]),?_,rfl,⟨_,x,rfl,ha,rfl,fun ys hys=>by rw[I.list_inj hys hq];exact hx⟩,⟨⟨_,he2⟩,hs'.1.at fun o q=>(hs2.2 it hei.symm).trans q⟩,fun b hb=>?_⟩
  ·exact I.spun (ch:=[e,it]) (t':=tk+1) hf (fun b u hb q=>(hs2.2 b fun z=>hb (by simp[z])).trans (hk b u (fun z=>hb (by simp[z])) (fun z=>hb (by simp[z])) q)) (Nat.le_refl _) (yY (e:=e) (it:=it) hT (hs2.2 _ hTe) ru)
  ·rw[aK (fun z=>?_)]
   ·exact(hf b hb).1
   ·obtain⟨o,ho⟩:∃ o,s.heap.get? b=some o:=by
     rcases List.mem_cons.mp hb with z | hb
     ·rw[z];exact⟨_,he⟩
     ·rw[List.mem_singleton.mp hb];exact hi.imp fun _ q=>q.1
    exact absurd (Heap.lt_size ho) (by rw[z];exact Nat.lt_irrefl _)
 done:=by
  intro X hP hw hK hc i pins s σ H E I hf st hg
  subst hP hw hK
  obtain⟨⟨old,he⟩,hi⟩:=st
  obtain⟨xs,hq,hx⟩:=hg
  obtain⟨its,rv,p,hz⟩:=I.list hq
  have p':s.heap.IsList a its.toArray:=p.isList
  have nai:a≠it:=fun z=>by
   obtain⟨o,h1,h2,_⟩:=p'
   obtain⟨o',h3,h4,_⟩:=id hi
   rw[z,h3]at h1;cases h1;rw[h2]at h4;injection h4 with q;exact absurd q (by decide)
  have hl:its.toArray.size=i:=by rw[List.size_toArray,← rv.length];exact hx
  refine wpAny_pyNext_enum_endD (Draws.list (A:=X.A.in1) (I.ok.hd hc) it a nai its.toArray) he ⟨by rw[hl];exact hi,p'⟩ fun h' hx'=>⟨rfl,I.spun0 (ch:=[e,it]) (t':=s.toks) hf fun b u hb q=>hx' b u (fun z=>hb (by simp[z])) q⟩
 self:=fun _ _ _ _ _ st h=>wpAny_pyIter_enum st.1.choose_spec h
end L2
namespace PySem
open AutoSeq1 (wpAny_loadPart')
noncomputable abbrev cH7(l:Addr):Obj:={cls:=.type "tuple_iterator",data:=.fields #[.ref l,.int 0 0]}
noncomputable abbrev cQ5(it:Addr):Obj:={cls:=.type "enumerate",data:=.fields #[.none,.bool false,.ref it,rawInt 0,.none,.none]}
theorem bE3(l:Addr)(its:Array Value)(n:Nat)(dct:Option Addr)(sl:Array (Option Value)) :
  Meets (Builtin.«enumerate.__new__» ⟨[.type "enumerate",.ref l],[]⟩) (fun _ R s=>s.heap.get? l=some {cls:=.type "tuple",dict:=dct,data:=.seq its n,slots:=sl} /\
   R (.ok (.ret (.ref (s.heap.push (cH7 l)).objs.size))) {s with heap:=(s.heap.push (cH7 l)).push (cQ5 s.heap.objs.size)}):=
 .of_wp fun prog w A R s h=>by
  obtain⟨hp,g,d,tk,os⟩:=s;obtain⟨hl,h⟩:=h;have hsub:=sub_enumerate
  have hL:Heap.IsTuple (Shared.heap ⟨hp,g,d,tk,os⟩) l its:=⟨_,hl,rfl,n,rfl⟩
  wp_walk using wpAny_loadPart' hl
  refine wpAny_stack_any fun st=>wpAny_pure ?_;split
  ·rename_i c _ _ _ _ _
   cases (c==Value.type "enumerate")<;>(wp_walk using wpAny_loadPart' hl,wpAny_pyIter_tuple hL;exact⟨_,rfl,h⟩)
  ·wp_walk using wpAny_loadPart' hl,wpAny_pyIter_tuple hL;exact⟨_,rfl,h⟩
section
variable{prog:Program}{w:World}{A:Around}{E:Value->Shared->Prop}{s:Shared}
theorem aB2{l:Addr}{its:Array Value}{Q:Value->Shared->Prop}(hL:s.heap.IsTuple l its)
  (h:∀ h',IsEnum h' (s.heap.objs.size+1) s.heap.objs.size 0 .none->h'.IsTupleIter s.heap.objs.size l 0->h'.objs.size=s.heap.objs.size+2->(∀ b o,s.heap.get? b=some o->h'.get? b=some o)->Q (.ref (s.heap.objs.size+1)) {s with heap:=h'}) :
  wpAny (model prog w) A (call (.type "enumerate") [.ref l]) Q E s:=by
 obtain⟨⟨c,dct,dt,sl⟩,hl,hc,n,hd⟩:=hL
 have hc':c=.type "tuple":=hc
 have hd':dt=.seq its n:=hd
 subst hc' hd'
 refine callType_new F.called_enumerate (by decide) (F.typeCall_enumerate_1 _) (F.newCall_enumerate_1 _) (fun obj=>F.args_object_init_2 obj _) F.entry_enumerate_new (bE3 l its n dct sl) ⟨hl,?_⟩
 have hz:(s.heap.push (cH7 l)).objs.size=s.heap.objs.size+1:=Heap.size_push ..
 show _/\_;rw[hz]
 have he:IsEnum ((s.heap.push (cH7 l)).push (cQ5 s.heap.objs.size)) (s.heap.objs.size+1) s.heap.objs.size 0 .none:=by
  have:=Heap.get?_push_size (s.heap.push (cH7 l)) (o:=cQ5 s.heap.objs.size) rfl
  rw[hz]at this;exact this
 exact⟨⟨_,he,rfl⟩,h _ he ⟨_,Heap.get?_push_of_some _ (Heap.get?_push_size _ rfl),rfl,rfl⟩ (by rw[Heap.size_push,hz]) fun b o x=>Heap.get?_push_of_some _ (Heap.get?_push_of_some _ x)⟩
end
end PySem
namespace L2
open PySem PyProof.Rows
section
variable{X:Cx}
noncomputable def cH8(K:PySem.W.Frag)(ta:TA):TI:=fun σ H R=>ta σ H fun vs H1=>∃ p,vs=[.ref p]/\((∃ xs,fP H1 p=some (true,xs)/\R (cQ4 K p) H1)\/∃ xs,fP H1 p=some (false,xs)/\R (cQ3 K p) H1)
theorem bT8(K:PySem.W.Frag)(hK:X.K=K){elts:List Expr}{k:Nat}{pos':Pos}{a:Expr}{ta:TA}{p pos:Pos}(hg:Gl X "enumerate")(hm:X.mg "enumerate"=none)(hbt:bootBuiltins "enumerate"=some (.type "enumerate"))(ha:PA X [a] ta)(hs:starEach [a] X.env=[(false,eval a X.env)]:=by rfl):PI X (.Tuple elts k pos') (.Call (.Name "enumerate" p) [a] [] pos) (cH8 K ta):=by
 subst hK
 intro pins s σ H R I h
 refine Call_ (lW I hg hm hbt (PyProof.Rows.callWith_type1 (thn (ha pos pins s σ H _ I h) fun us s1 ⟨vs,H1,I1,r1,q1⟩=>?_) hs rfl))
 obtain⟨b,rfl,q1⟩:=q1
 obtain⟨u,rfl,ru⟩:=r1.one
 cases ru
 have new:∀ c,c∈[s1.heap.objs.size+1,s1.heap.objs.size]->s1.heap.objs.size<=c:=fun c hc=>by
  rcases List.mem_cons.mp hc with z | hc
  ·omega
  ·rw[List.mem_singleton.mp hc];exact Nat.le_refl _
 rcases q1 with⟨xs,hq,q⟩ | ⟨xs,hq,q⟩
 ·obtain⟨its,rv,p',hz⟩:=I1.list (fD hq)
  refine call_enumerate_list p'.isList fun h' he hi hsz hk=>wpAny_pyIter_enum he ?_
  exact⟨_,[s1.heap.objs.size+1,s1.heap.objs.size],_,_,H1,rfl,I1.kept (t':=s1.toks) hk,aB1 b _ _ (Nat.succ_ne_self _),⟨⟨_,he⟩,hi⟩,fun c hc=>I1.fpOk (new c hc) (I1.hok.fresh (new c hc)),q⟩
 ·obtain⟨its,rv,p',hz⟩:=I1.tuple (eK hq)
  refine aB2 (show s1.heap.IsTuple b its.toArray from p') fun h' he hi hsz hk=>wpAny_pyIter_enum he ?_
  exact⟨_,[s1.heap.objs.size+1,s1.heap.objs.size],_,_,H1,rfl,I1.kept (t':=s1.toks) hk,aB0 b _ _ (Nat.succ_ne_self _),⟨⟨_,he⟩,hi⟩,fun c hc=>I1.fpOk (new c hc) (I1.hok.fresh (new c hc)),q⟩
end
end L2
namespace Dv
open PySem L2 Mr
section
variable{P:Program}{w:World}{K:PySem.W.Frag}{mg:Str->Option Value}{base:Heap}
end
section
variable{K:PySem.W.Frag}{H:Hp}{C fI:Addr}{E:XK}
end
section
variable{K:PySem.W.Frag}{H:Hp}{C fI:Addr}{E:XK}
end
end Dv
namespace Dv
open PySem L2
noncomputable def nV(n:Nat):List D->List D
 | []=>[]
 | d::r=>.tup [.int (n:Int),d]::nV (n+1) r
theorem gN:∀ (n:Nat) (l:List D),(nV n l).length=l.length
 | _,[]=>rfl
 | n,_::r=>by show(nV (n+1) r).length+1=r.length+1;rw[gN]
theorem hR:∀ {n:Nat} {l:List D} {i:Nat} {d:D},(nV n l)[i]? = some d->∃ y,l[i]? = some y/\d=.tup [.int ((n+i:Nat):Int),y]
 | _,[],_,_,h=>by simp[nV]at h
 | n,y::r,0,d,h=>by
   simp[nV]at h
   exact⟨y,rfl,by rw[← h];rfl⟩
 | n,y::r,i+1,d,h=>by
   obtain⟨z,e,q⟩:=hR (n:=n+1) (l:=r) (i:=i) (d:=d) (by simpa[nV]using h)
   exact⟨z,by simpa using e,by rw[q,show n+1+i=n+(i+1) by omega]⟩
theorem aV9{K:PySem.W.Frag}{p:Addr}{xs:List V}{l:List D}:ItD (cQ4 K p) (nV 0 l) (fun H=>SqL K H p xs/\Rps H l xs) where
 go:=fun H i d ⟨h,r⟩ e=>by
  obtain⟨y,ey,_⟩:=hR e
  obtain⟨x,ex,_⟩:=r.get ey
  exact⟨xs,x,h,ex⟩
 yld:=fun H i d v H' ⟨h,r⟩ e ⟨T,x,ev,hT,eH,hx⟩=>by
  obtain⟨y,ey,rfl⟩:=hR e
  obtain⟨x',ex,rx⟩:=r.get ey
  have:=hx xs h
  rw[ex]at this
  cases this
  subst ev eH
  refine⟨bV hT,.tup aT (.cons ?_ (.cons (rx.mono (Ext.same (bV hT))) .nil))⟩
  rw[Nat.zero_add]
  exact .int _
 stop:=fun H ⟨h,r⟩=>⟨xs,h,by rw[gN,r.length]⟩
theorem aW0{K:PySem.W.Frag}{p:Addr}{xs:List V}{l:List D}:ItD (cQ3 K p) (nV 0 l) (fun H=>SqT K H p xs/\Rps H l xs) where
 go:=fun H i d ⟨h,r⟩ e=>by
  obtain⟨y,ey,_⟩:=hR e
  obtain⟨x,ex,_⟩:=r.get ey
  exact⟨xs,x,h,ex⟩
 yld:=fun H i d v H' ⟨h,r⟩ e ⟨T,x,ev,hT,eH,hx⟩=>by
  obtain⟨y,ey,rfl⟩:=hR e
  obtain⟨x',ex,rx⟩:=r.get ey
  have:=hx xs h
  rw[ex]at this
  cases this
  subst ev eH
  refine⟨bV hT,.tup aT (.cons ?_ (.cons (rx.mono (Ext.same (bV hT))) .nil))⟩
  rw[Nat.zero_add]
  exact .int _
 stop:=fun H ⟨h,r⟩=>⟨xs,h,by rw[gN,r.length]⟩
noncomputable def cM5:D->Option (List D)
 | .lst l=>some l
 | .tup l=>some l
 | _=>none
noncomputable def aW1(r:DE):DI:=fun σ=>(r σ).bind fun x=>(rd x.2 x.1).bind fun d=>(cM5 d).bind fun l=>some (nV 0 l,(match x.1 with | .slot i=>some i | _=>none),x.2)
theorem bT9{X:Cx}{tg e:Expr}{r:DE}(K:PySem.W.Frag)(h:∀ Γ,PI X tg e (cH8 K (dTA Γ (aC r aN)))):GI X tg e (aW1 r):=.mk fun Γ=>piW (h Γ) fun σV H R ⟨σ,ok,items,l,σ1,e,k⟩=>by
 obtain⟨⟨x,σ2⟩,e1,e⟩:=aD e
 obtain⟨d,e2,e⟩:=aD e
 obtain⟨its,e3,e⟩:=aD e
 cases e
 refine⟨σ,ok,[x],σ2,?_,fun vs H1 ok1 r1 st1 f1=>?_⟩
 ·show((_:Option _).bind _)=_
  rw[e1];rfl
 cases r1 with
 | cons r1 t _=>
   cases t
   have vw:=r1.vw ok1 e2
   cases d with
   | lst l'=>
     cases e3
     obtain⟨p,xs,rfl,hq,hr⟩:=gK vw
     refine⟨p,rfl,.inl ⟨xs,hq,k _ H1 _ ok1 st1 (aV9 (xs:=xs)) fun σ3 σV3 H3 st3=>?_⟩⟩
     obtain⟨h1,h2⟩:=nN ok1 r1 e2 (items:=its) rfl vw p true xs rfl hq hr σ3 σV3 H3 st3
     exact⟨fD h1,h2⟩
   | tup l'=>
     cases e3
     obtain⟨p,xs,rfl,hq,hr⟩:=gB vw
     refine⟨p,rfl,.inr ⟨xs,dI hq,k _ H1 _ ok1 st1 (aW0 (xs:=xs)) fun σ3 σV3 H3 st3=>?_⟩⟩
     obtain⟨h1,h2⟩:=nN ok1 r1 e2 (items:=its) rfl vw p false xs rfl (dI hq) hr σ3 σV3 H3 st3
     exact⟨eK h1,h2⟩
   | _=>cases e3
theorem wP{σ:Sg}{a:DE}{K:List D->Option Nat->Sg->Prop}:RI (aW1 a) σ K=RE a σ fun x σ1=>RD σ1 x fun d=>OK1 (cM5 d) fun l=>K (nV 0 l) (match x with | .slot i=>some i | _=>none) σ1:=by
 unfold RI RE RD aW1;simp only[aO,cF];try rfl
end Dv
namespace Mr
open PySem L2
noncomputable def top(i:Nat):Stmt:=PySem.Challenge.pw_mostrows_k47_ears_looked_at.main.body.getD i (.Pass ⟨0,0,0,0⟩)
noncomputable abbrev pT:Stmt:=top 10
noncomputable abbrev jS:Stmt:=top 12
noncomputable abbrev pU:Stmt:=top 13
noncomputable abbrev iO:Stmt:=top 15
noncomputable abbrev iP:Stmt:=top 14
noncomputable abbrev nW:Stmt:=top 11
noncomputable abbrev jT:Stmt:=top 16
noncomputable abbrev tE:Stmt:=top 9
noncomputable abbrev kY:Stmt:=top 18
noncomputable abbrev nX:Stmt:=top 20
noncomputable abbrev mG:Stmt:=top 21
noncomputable abbrev nY:Stmt:=top 22
noncomputable abbrev nZ:Stmt:=top 19
noncomputable abbrev tF:Stmt:=top 3
noncomputable abbrev mH:Stmt:=top 1
noncomputable abbrev tG:Stmt:=top 4
noncomputable abbrev mI:Stmt:=top 5
noncomputable abbrev tH:Stmt:=top 6
noncomputable abbrev oA:Stmt:=top 7
noncomputable abbrev cH9:Stmt:=top 23
structure Adr where
 law_take:Addr
 fd_law_take:FuncData
 law_shuffled:Addr
 fd_law_shuffled:FuncData
 law_some:Addr
 fd_law_some:FuncData
 law_round_sets:Addr
 fd_law_round_sets:FuncData
 law_plain_sets:Addr
 fd_law_plain_sets:FuncData
 law_names:Addr
 fd_law_names:FuncData
 law_question:Addr
 fd_law_question:FuncData
 law_box:Addr
 fd_law_box:FuncData
 law_holders:Addr
 fd_law_holders:FuncData
 law_begun:Addr
 fd_law_begun:FuncData
 law_spoilt:Addr
 fd_law_spoilt:FuncData
 law_truth:Addr
 fd_law_truth:FuncData
 law_shows:Addr
 fd_law_shows:FuncData
 without:Addr
 fd_without:FuncData
 columns_of:Addr
 fd_columns_of:FuncData
 has_all:Addr
 fd_has_all:FuncData
 holders_of:Addr
 fd_holders_of:FuncData
 ears_in:Addr
 fd_ears_in:FuncData
 ears_show:Addr
 fd_ears_show:FuncData
 law:Addr
 fd_law:FuncData
structure Txt(K:PySem.W.Frag)(mg:Str->Option Value)(a:Adr):Prop where
 m_law_take:mg "_law_take"=some (.ref a.law_take)
 F_law_take:Fun K "_law_take" "_law_take" pT a.law_take a.fd_law_take
 m_law_shuffled:mg "_law_shuffled"=some (.ref a.law_shuffled)
 F_law_shuffled:Fun K "_law_shuffled" "_law_shuffled" jS a.law_shuffled a.fd_law_shuffled
 m_law_some:mg "_law_some"=some (.ref a.law_some)
 F_law_some:Fun K "_law_some" "_law_some" pU a.law_some a.fd_law_some
 m_law_round_sets:mg "_law_round_sets"=some (.ref a.law_round_sets)
 F_law_round_sets:Fun K "_law_round_sets" "_law_round_sets" iO a.law_round_sets a.fd_law_round_sets
 m_law_plain_sets:mg "_law_plain_sets"=some (.ref a.law_plain_sets)
 F_law_plain_sets:Fun K "_law_plain_sets" "_law_plain_sets" iP a.law_plain_sets a.fd_law_plain_sets
 m_law_names:mg "_law_names"=some (.ref a.law_names)
 F_law_names:Fun K "_law_names" "_law_names" nW a.law_names a.fd_law_names
 m_law_question:mg "_law_question"=some (.ref a.law_question)
 F_law_question:Fun K "_law_question" "_law_question" jT a.law_question a.fd_law_question
 m_law_box:mg "_law_box"=some (.ref a.law_box)
 F_law_box:Fun K "_law_box" "_law_box" tE a.law_box a.fd_law_box
 m_law_holders:mg "_law_holders"=some (.ref a.law_holders)
 F_law_holders:Fun K "_law_holders" "_law_holders" kY a.law_holders a.fd_law_holders
 m_law_begun:mg "_law_begun"=some (.ref a.law_begun)
 F_law_begun:Fun K "_law_begun" "_law_begun" nX a.law_begun a.fd_law_begun
 m_law_spoilt:mg "_law_spoilt"=some (.ref a.law_spoilt)
 F_law_spoilt:Fun K "_law_spoilt" "_law_spoilt" mG a.law_spoilt a.fd_law_spoilt
 m_law_truth:mg "_law_truth"=some (.ref a.law_truth)
 F_law_truth:Fun K "_law_truth" "_law_truth" nY a.law_truth a.fd_law_truth
 m_law_shows:mg "_law_shows"=some (.ref a.law_shows)
 F_law_shows:Fun K "_law_shows" "_law_shows" nZ a.law_shows a.fd_law_shows
 m_without:mg "without"=some (.ref a.without)
 F_without:Fun K "without" "without" tF a.without a.fd_without
 m_columns_of:mg "columns_of"=some (.ref a.columns_of)
 F_columns_of:Fun K "columns_of" "columns_of" mH a.columns_of a.fd_columns_of
 m_has_all:mg "has_all"=some (.ref a.has_all)
 F_has_all:Fun K "has_all" "has_all" tG a.has_all a.fd_has_all
 m_holders_of:mg "holders_of"=some (.ref a.holders_of)
 F_holders_of:Fun K "holders_of" "holders_of" mI a.holders_of a.fd_holders_of
 m_ears_in:mg "ears_in"=some (.ref a.ears_in)
 F_ears_in:Fun K "ears_in" "ears_in" tH a.ears_in a.fd_ears_in
 m_ears_show:mg "ears_show"=some (.ref a.ears_show)
 F_ears_show:Fun K "ears_show" "ears_show" oA a.ears_show a.fd_ears_show
 m_law:mg "law"=some (.ref a.law)
 F_law:Fun K "law" "law" cH9 a.law a.fd_law
 n_all:mg "all"=none
 n_bool:mg "bool"=none
 n_dict:mg "dict"=none
 n_enumerate:mg "enumerate"=none
 n_int:mg "int"=none
 n_isinstance:mg "isinstance"=none
 n_len:mg "len"=none
 n_list:mg "list"=none
 n_max:mg "max"=none
 n_min:mg "min"=none
 n_range:mg "range"=none
 n_tuple:mg "tuple"=none
theorem yZ:bootBuiltins "all"=some (.builtin "all"):=by decide +kernel
theorem aW2:bootBuiltins "bool"=some (.type "bool"):=by decide +kernel
theorem aW3:bootBuiltins "dict"=some (.type "dict"):=by decide +kernel
theorem pC:bootBuiltins "enumerate"=some (.type "enumerate"):=by decide +kernel
theorem rF:bootBuiltins "int"=some (.type "int"):=by decide +kernel
theorem oB:bootBuiltins "isinstance"=some (.builtin "isinstance"):=by decide +kernel
theorem bJ:bootBuiltins "len"=some (.builtin "len"):=by decide +kernel
theorem eN:bootBuiltins "list"=some (.type "list"):=by decide +kernel
theorem bE4:bootBuiltins "max"=some (.builtin "max"):=by decide +kernel
theorem rG:bootBuiltins "min"=some (.builtin "min"):=by decide +kernel
theorem boot_range:bootBuiltins "range"=some (.type "range"):=by decide +kernel
theorem jK:bootBuiltins "tuple"=some (.type "tuple"):=by decide +kernel
theorem oC:FnScope ["_law_box_here","_law_many","_law_digit","_law_one"] ["_law_box_here","_law_many"] (bA pT):=⟨rfl,rfl,rfl,by decide +kernel,rfl,by decide +kernel,by decide +kernel⟩
theorem jB:FnScope ["_law_box_here","_law_things","_law_left","_law_found"] ["_law_box_here","_law_things"] (bA jS):=⟨rfl,rfl,rfl,by decide +kernel,rfl,by decide +kernel,by decide +kernel⟩
theorem oE:FnScope ["_law_box_here","_law_things"] ["_law_box_here","_law_things"] (bA pU):=⟨rfl,rfl,rfl,by decide +kernel,rfl,by decide +kernel,by decide +kernel⟩
theorem hU:FnScope ["_law_box_here","_law_many","_law_found","_law_own","_law_k","_law_j"] ["_law_box_here"] (bA iO):=⟨rfl,rfl,rfl,by decide +kernel,rfl,by decide +kernel,by decide +kernel⟩
theorem hV:FnScope ["_law_box_here","_law_many","_law_count","_law_found","_law_used","_law_k","_law_own","_law_fresh","_law_column"] ["_law_box_here"] (bA iP):=⟨rfl,rfl,rfl,by decide +kernel,rfl,by decide +kernel,by decide +kernel⟩
theorem mJ:FnScope ["_law_box_here","_law_many","_law_letters","_law_x","_law_y","_law_common","_law_at","_law_first","_law_longer","_law_found","_law_k","_law_word"] ["_law_box_here","_law_many"] (bA nW):=⟨rfl,rfl,rfl,by decide +kernel,rfl,by decide +kernel,by decide +kernel⟩
theorem jC:FnScope ["_law_box_here","_law_way","_law_sets","_law_columns_here","_law_tables","_law_found","_law_k","_law_own","_law_at"] ["_law_box_here"] (bA jT):=⟨rfl,rfl,rfl,by decide +kernel,rfl,by decide +kernel,by decide +kernel⟩
theorem pV:FnScope ["_law_script","_law_k","_law_cell","_law_seed"] ["_law_script","_law_k"] (bA tE):=⟨rfl,rfl,rfl,by decide +kernel,rfl,by decide +kernel,by decide +kernel⟩
theorem jU:FnScope ["_law_left","_law_kt","_law_own","_law_others","_law_wanted","_law_other","_law_columns_here","_law_column"] ["_law_left","_law_kt"] (bA kY):=⟨rfl,rfl,rfl,by decide +kernel,rfl,by decide +kernel,by decide +kernel⟩
theorem mK:FnScope ["_law_box_here","_law_question_here","_law_left","_law_found","_law_some_here","_law_kt","_law_keepers","_law_columns_here","_law_pair","_law_other"] ["_law_box_here","_law_question_here"] (bA nX):=⟨rfl,rfl,rfl,by decide +kernel,rfl,by decide +kernel,by decide +kernel⟩
theorem kZ:FnScope ["_law_box_here","_law_question_here","_law_some_here","_law_names_here","_law_at","_law_other","_law_way","_law_kt","_law_holder","_law_found","_law_columns_here"] ["_law_box_here","_law_question_here","_law_some_here"] (bA mG):=⟨rfl,rfl,rfl,by decide +kernel,rfl,by decide +kernel,by decide +kernel⟩
theorem mL:FnScope ["_law_found","_law_due"] ["_law_found","_law_due"] (bA nY):=⟨rfl,rfl,rfl,by decide +kernel,rfl,by decide +kernel,by decide +kernel⟩
theorem mM:FnScope ["_law_question_here","_law_some_here","_law_left","_law_kt","_law_holder","_law_pair"] ["_law_question_here","_law_some_here"] (bA nZ):=⟨rfl,rfl,rfl,by decide +kernel,rfl,by decide +kernel,by decide +kernel⟩
theorem pW:FnScope ["question","name","pair"] ["question","name"] (bA tF):=⟨rfl,rfl,rfl,by decide +kernel,rfl,by decide +kernel,by decide +kernel⟩
theorem lA:FnScope ["question","found","name","columns","column"] ["question"] (bA mH):=⟨rfl,rfl,rfl,by decide +kernel,rfl,by decide +kernel,by decide +kernel⟩
theorem pX:FnScope ["columns","some","column"] ["columns","some"] (bA tG):=⟨rfl,rfl,rfl,by decide +kernel,rfl,by decide +kernel,by decide +kernel⟩
theorem lB:FnScope ["left","name","columns","others","shared","column","other","held"] ["left","name","columns"] (bA mI):=⟨rfl,rfl,rfl,by decide +kernel,rfl,by decide +kernel,by decide +kernel⟩
theorem pY:FnScope ["left","found","name","columns","holder"] ["left"] (bA tH):=⟨rfl,rfl,rfl,by decide +kernel,rfl,by decide +kernel,by decide +kernel⟩
theorem mO:FnScope ["question","some","left","name","holder"] ["question","some"] (bA oA):=⟨rfl,rfl,rfl,by decide +kernel,rfl,by decide +kernel,by decide +kernel⟩
theorem bL1:FnScope ["_law_script","_law_question_here","_law_good","_law_lists","_law_k","_law_box_here","_law_some_here","_law_handed"] ["_law_script"] (bA cH9):=⟨rfl,rfl,rfl,by decide +kernel,rfl,by decide +kernel,by decide +kernel⟩
section
variable{P:Program}{w:World}{K:PySem.W.Frag}{mg:Str->Option Value}{base:Heap}{a:Adr}
theorem aM(T:Txt K mg a):fS K a.fd_law_take ["_law_box_here","_law_many"] []:=T.F_law_take.binds (ps:=["_law_box_here","_law_many"]) fun _ _ _ _ _ _ us hl=>match us,hl with | [_,_],_=>rfl
theorem eZ(T:Txt K mg a):fS K a.fd_law_shuffled ["_law_box_here","_law_things"] []:=T.F_law_shuffled.binds (ps:=["_law_box_here","_law_things"]) fun _ _ _ _ _ _ us hl=>match us,hl with | [_,_],_=>rfl
theorem jL(T:Txt K mg a):fS K a.fd_law_some ["_law_box_here","_law_things"] []:=T.F_law_some.binds (ps:=["_law_box_here","_law_things"]) fun _ _ _ _ _ _ us hl=>match us,hl with | [_,_],_=>rfl
theorem mR(T:Txt K mg a):fS K a.fd_law_round_sets ["_law_box_here"] []:=T.F_law_round_sets.binds (ps:=["_law_box_here"]) fun _ _ _ _ _ _ us hl=>match us,hl with | [_],_=>rfl
theorem mS(T:Txt K mg a):fS K a.fd_law_plain_sets ["_law_box_here"] []:=T.F_law_plain_sets.binds (ps:=["_law_box_here"]) fun _ _ _ _ _ _ us hl=>match us,hl with | [_],_=>rfl
theorem oF(T:Txt K mg a):fS K a.fd_law_names ["_law_box_here","_law_many"] []:=T.F_law_names.binds (ps:=["_law_box_here","_law_many"]) fun _ _ _ _ _ _ us hl=>match us,hl with | [_,_],_=>rfl
theorem pD(T:Txt K mg a):fS K a.fd_law_question ["_law_box_here"] []:=T.F_law_question.binds (ps:=["_law_box_here"]) fun _ _ _ _ _ _ us hl=>match us,hl with | [_],_=>rfl
theorem oG(T:Txt K mg a):fS K a.fd_law_box ["_law_script","_law_k"] []:=T.F_law_box.binds (ps:=["_law_script","_law_k"]) fun _ _ _ _ _ _ us hl=>match us,hl with | [_,_],_=>rfl
theorem iM(T:Txt K mg a):fS K a.fd_law_holders ["_law_left","_law_kt"] []:=T.F_law_holders.binds (ps:=["_law_left","_law_kt"]) fun _ _ _ _ _ _ us hl=>match us,hl with | [_,_],_=>rfl
theorem wQ(T:Txt K mg a):fS K a.fd_law_begun ["_law_box_here","_law_question_here"] []:=T.F_law_begun.binds (ps:=["_law_box_here","_law_question_here"]) fun _ _ _ _ _ _ us hl=>match us,hl with | [_,_],_=>rfl
theorem mP(T:Txt K mg a):fS K a.fd_law_spoilt ["_law_box_here","_law_question_here","_law_some_here"] []:=T.F_law_spoilt.binds (ps:=["_law_box_here","_law_question_here","_law_some_here"]) fun _ _ _ _ _ _ us hl=>match us,hl with | [_,_,_],_=>rfl
theorem wR(T:Txt K mg a):fS K a.fd_law_truth ["_law_found","_law_due"] []:=T.F_law_truth.binds (ps:=["_law_found","_law_due"]) fun _ _ _ _ _ _ us hl=>match us,hl with | [_,_],_=>rfl
theorem wS(T:Txt K mg a):fS K a.fd_law_shows ["_law_question_here","_law_some_here"] []:=T.F_law_shows.binds (ps:=["_law_question_here","_law_some_here"]) fun _ _ _ _ _ _ us hl=>match us,hl with | [_,_],_=>rfl
theorem tI(T:Txt K mg a):fS K a.fd_without ["question","name"] []:=T.F_without.binds (ps:=["question","name"]) fun _ _ _ _ _ _ us hl=>match us,hl with | [_,_],_=>rfl
theorem tJ(T:Txt K mg a):fS K a.fd_columns_of ["question"] []:=T.F_columns_of.binds (ps:=["question"]) fun _ _ _ _ _ _ us hl=>match us,hl with | [_],_=>rfl
theorem aW4(T:Txt K mg a):fS K a.fd_has_all ["columns","some"] []:=T.F_has_all.binds (ps:=["columns","some"]) fun _ _ _ _ _ _ us hl=>match us,hl with | [_,_],_=>rfl
theorem tK(T:Txt K mg a):fS K a.fd_holders_of ["left","name","columns"] []:=T.F_holders_of.binds (ps:=["left","name","columns"]) fun _ _ _ _ _ _ us hl=>match us,hl with | [_,_,_],_=>rfl
theorem aW5(T:Txt K mg a):fS K a.fd_ears_in ["left"] []:=T.F_ears_in.binds (ps:=["left"]) fun _ _ _ _ _ _ us hl=>match us,hl with | [_],_=>rfl
theorem wT(T:Txt K mg a):fS K a.fd_ears_show ["question","some"] []:=T.F_ears_show.binds (ps:=["question","some"]) fun _ _ _ _ _ _ us hl=>match us,hl with | [_,_],_=>rfl
end
end Mr
namespace Dv
open PySem L2 Mr
open Classical in
noncomputable def wU:FN:=fun ds=>match ds with
 | [.int n]=>if 0<=n/\n<=1000 then some (.own (.lst (nO 0 n.toNat)))else none
 | _=>none
theorem bE5{H:Hp}(n:Nat):Rps H (nO 0 n) ((List.range n).map fun(i:Nat)=>V.int (i:Int)):=by
 refine bL0 (by unfold nO;rw[List.length_map,List.length_map]) fun j d x e1 e2=>?_
 unfold nO at e1
 rw[List.getElem?_map]at e1 e2
 obtain⟨k,ek,rfl⟩:=Option.map_eq_some_iff.mp e1
 rw[ek]at e2
 cases e2
 rw[Int.zero_add]
 exact .int _
theorem zA:bA0 yF wU:=by
 intro H ds vs Q res vw e k
 unfold wU at e
 split at e
 ·rename_i n
  split at e
  ·rename_i hn
   cases e
   cases vw with
   | cons a t=>
     cases t
     rcases a with a | ⟨p,_,ow⟩
     ·cases a
      exact⟨n,rfl,hn.1,hn.2,fun r hr=>k _ _ (bV hr) ⟨r,rfl,hr,_,aT,bE5 _⟩⟩
     ·exact ow.elim
  ·cases e
 ·cases e
theorem wV{n:Int}{K:Res->Prop}:OK1 (wU [.int n]) K=((0<=n/\n<=1000)/\K (.own (.lst (nO 0 n.toNat)))):=by
 show OK1 (if _ then _ else none) K=_
 rw[bZ];rfl
section
variable{Γ:Gm}{H H1:Hp}{σ σ1:Sg}{σV:St}{p:Addr}{o o':HO}
end
theorem aL{X:Cx}{E:Ex}{i:Nat}{x:Str}{e:Expr}{r:DE}{pos pos':Pos}(hN:X.N.Nodup)(hi:X.N[i]? = some x)(hx:Loc X.env.scope x)(he:GE X e r)(hs:swapsWith e (some (.Name x pos')) pos.line X.env=pure false:=by rfl)(hf:X.fn x=true\/X.env.scope.names.lookup x=some .local:=by first | exact .inl rfl | exact .inr rfl | assumption) :
  GS E X (.Assign [.Name x pos'] e pos) (cC i r):=cF2 fun Γ=>rW hN hi hx (he.to Γ) hs hf
theorem aW6{z:Str}{i:Int}{K:Res->Prop}:OK1 (ixD (.str z) (.int i)) K=(z.length<=sizeLine/\OK1 (atI z.cps.toList i) fun c=>K (.val (.str ⟨#[c]⟩))):=by
 show OK1 (if _ then _ else none) K=_
 rw[bZ,sZ]
theorem rH{z:Str}{K:Res->Prop}(h:z.length<=sizeLine):OK1 (iR [.str z]) K=K (.val (.int z.length)):=by
 show OK1 (if _ then _ else none) K=_
 rw[bZ]
 exact propext ⟨fun h=>h.2,fun k=>⟨h,k⟩⟩
noncomputable def fo(x:Option (Bool×D)):Option Sl:=x.map fun p=>⟨if p.1=true then .own else .val,p.2⟩
theorem aW7{x:Option (Bool×D)}{r:Sg}{s:Sl}{K:Sg->Prop}:PK 0 (fo x::r) s K=K (some s::r):=by
 cases x with
 | none=>rfl
 | some p=>
   obtain⟨b,d⟩:=p
   cases b<;>rfl
@[irreducible] noncomputable def tL(ow:List Nat)(g:DG)(t:DT)(e:DE)(items:List D)(τ:Sg):=vC ow g t e items τ
@[irreducible] noncomputable def bU0(g:DG)(b:DS)(items:List D)(σ:Sg):=aJ5 g b items σ
@[irreducible] noncomputable def zB(c:DT)(b:DS)(σ:Sg):=mD c b bX2 σ
section
variable{σ:Sg}{QS:Out->Prop}{Q:Res->Sg->Prop}{ri:DI}{g:DG}{b:DS}{a:DE}{ra:DA}
theorem wW:RS (rT ri g b) σ QS=RI ri σ fun items l σ1=>OK1 (bU0 g b items (lendO l σ1)) fun o=>QS (pO l σ1 o):=by
 unfold bU0;exact cH6
theorem oH{c:DT}:RS (pP c b) σ QS=OK1 (zB c b σ) QS:=by unfold zB;rfl
theorem rJ{ow:List Nat}{t:DT}{e:DE}:RE (dE ow ri g t e) σ Q=RI ri σ fun items l σ1=>items.length<=sizeLine/\OK1 (tL ow g t e items (bY ow (lendO l σ1))) fun y=>Q (.own (.lst y.1)) (pN l σ1 (jX ow (lendO l σ1) y.2)):=by
 unfold tL;exact bS7
theorem kA{items:List D}(P:Nat->Sg->Prop)(h0:P 0 σ)(hs:∀ i d σ,items[i]? = some d->P i σ->OK1 (g d σ) fun σ1=>RS b σ1 fun o=>∃ σ2,(o=.nx σ2\/o=.ct σ2)/\P (i+1) σ2){K:Out->Prop}(k:∀ σ',P items.length σ'->K (.nx σ')):OK1 (bU0 g b items σ) K:=by
 unfold bU0;exact bS5 P h0 hs k
theorem aW8{items:List D}(P:Nat->Sg->Prop){K:Out->Prop}(h0:P 0 σ)(hs:∀ i d σ,items[i]? = some d->P i σ->OK1 (g d σ) fun σ1=>RS b σ1 fun o=>(∃ σ2,(o=.nx σ2\/o=.ct σ2)/\P (i+1) σ2)\/(∃ x σ2,o=.rt x σ2/\K (.rt x σ2))\/(∃ σ2,o=.bk σ2/\K (.nx σ2)))(k:∀ σ',P items.length σ'->K (.nx σ')):OK1 (bU0 g b items σ) K:=by
 unfold bU0;exact bS6 P h0 hs k
theorem pZ{c:DT}(P:Nat->Sg->Prop)(m:Nat)(hm:m < 1000000)(h0:P m σ)(hs:∀ m σ,P m σ->RT c σ fun t σ1=>if t=true then RS b σ1 fun o=>(∃ σ2 m',(o=.nx σ2\/o=.ct σ2)/\m' < m/\P m' σ2)\/(∃ x σ2,o=.rt x σ2/\QS (.rt x σ2))\/(∃ σ2,o=.bk σ2/\QS (.nx σ2))else QS (.nx σ1)):OK1 (zB c b σ) QS:=by
 unfold zB;exact aS5 P m hm h0 hs
theorem hW{ow:List Nat}{t:DT}{e:DE}{K:List D×Sg->Prop}(items:List D)(τ:Sg)(P:Nat->List D->Sg->Prop)(h0:P 0 [] τ)
  (hs:∀ i d acc τ,items[i]? = some d->P i acc τ->OK1 (g d τ) fun τ1=>RT t τ1 fun b τ2=>if b=true then RE e τ2 fun r τ3=>∃ v,r=.val v/\P (i+1) (acc++[v]) (bY ow τ3)else P (i+1) acc (bY ow τ2))
  (k:∀ acc τ,P items.length acc τ->K (acc,τ)):OK1 (tL ow g t e items τ) K:=by
 unfold tL;exact nU items τ P h0 hs k
end
end Dv
namespace PySem
section
variable{prog:Program}{w:World}{A:Around}{E:Value->Shared->Prop}{R:Result->Shared->Prop}{S I:Addr}{fp:List Addr}{n:Nat}{P:Nat->Value->Prop}{St J:Nat->Heap->Prop}
end
open Sem (wp)
theorem tM:typeLookup (.type "list") "keys"=pure none:=by rw[typeLookup_type,builtinLookup_eq_fast];kernel_rfl
theorem tN:entryFor table "dict.update.loop"=some Builtin.«dict.update.loop»:=entryFor_of_tree (by kernel_rfl)
theorem lC:plainId "dict.update.loop"=true:=by decide +kernel
section
variable{prog:Program}{w:World}{A:Around}{E:Value->Shared->Prop}
theorem aW9{s:Shared}{a:Addr}{o:Obj}{xs:Array Value}{k:Nat}{Q:Option Value->Shared->Prop}(hx:s.heap.get? a=some o)(hc:o.cls=.type "list")(hdat:o.data=.seq xs k)(hd:o.dict=none)(hA:A.handled=none)
  (h:∀ h' tk,(∀ b o,s.heap.get? b=some o->h'.get? b=some o)->Q none {s with heap:=h',toks:=tk}):wpAny (model prog w) A (getAttr? (.ref a) "keys") Q E s:=by
 obtain⟨c,dct,dat,sl⟩:=o
 simp only at hc hdat hd
 subst hc hdat hd
 obtain⟨hp,g,d,tk,os⟩:=s
 have hT:∀ tk',(⟨hp,g,d,tk',os⟩:Shared).TypeIs (.ref a) "list":=fun _=>⟨_,hx,rfl⟩
 have f1:=sub_AttributeError
 have f3:=F.slot_list_getattribute.lookup
 have f4:=F.slot_list_getattribute.bind (.ref a)
 have f5:=am_list_getattr_none
 unfold getAttr? getAttrBy? getAttrBy
 repeat (any_goals (first | assumption | exact hT _ | ((with_reducible show wpAny _ _ (call (Value.builtin "list.__getattribute__") _ _) _ _ _);refine call_meets F.slot_list_getattribute (hT _) am_entry_list_getattribute (F.args_list_getattribute_2 _ _) (meets_getattribute_miss_list a xs k sl "keys" _ tM (by decide) (by size_fits)) ⟨hx,hA,fun h' tk' e hx'=>?_⟩) | wp_step))
 obtain⟨t',u',he⟩:=hx'.there
 show wpAny _ _ (getattributeRaised _ _ _ _ _ _ _) _ _ _
 unfold getattributeRaised hookOrError attributeErrorLeaves
 repeat (any_goals (first | assumption | wp_step))
 exact h _ _ hx'.keeps
theorem aB3{s:Shared}{a:Addr}{u x:Value}{Q:List Value->Shared->Prop}(ht:s.heap.IsTuple a #[u,x])(h:Q [u,x] s):wpAny (model prog w) A (Builtin.Dict.pairItems (.ref a)) Q E s:=by
 obtain⟨⟨c,dct,dat,sl⟩,h1,h2,n,h3⟩:=ht
 simp only at h2 h3
 subst h2 h3
 obtain⟨hp,g,d,tk,os⟩:=s
 have hT:(⟨hp,g,d,tk,os⟩:Shared).TypeIs (.ref a) "tuple":=⟨_,h1,rfl⟩
 unfold Builtin.Dict.pairItems
 repeat (any_goals (first | assumption | wp_step))
end
section
variable{prog:Program}{w:World}{A:Around}{E:Value->Shared->Prop}{R:Result->Shared->Prop}{d I:Addr}{fp:List Addr}{n:Nat}{P:Nat->Value->Prop}{St:Nat->Heap->Prop}{κ:Type}[DecidableEq κ]{knd:KeyKind prog w κ}
theorem aB4{K:Type}[DecidableEq K](l:List (K×Value))(k:K)(v:Value):(stored l k v).length<=l.length+1:=by
 unfold stored
 split<;>simp
theorem dul(W:Walks prog w A.in1 I fp [I] n P St)(hd:d∉fp)(hI:I≠d){h₀:Heap}(h0:∀ b o,h₀.get? b=some o->b≠d/\b≠I)(prs:List (κ×Value))(hn:prs.length=n)(hsz:n < 4000)
  (hP:∀ i v p,P i v->prs[i]? = some p->∃ a u,v=.ref a/\h₀.IsTuple a #[u,p.2]/\knd.is p.1 u=true) :
  ∀ (k i:Nat) (c:Tok) (s:Shared) (kvs:List (κ×Value)),i+k=n->St i s.heap->s.heap.DictOf knd d kvs->kvs.length<=i->(∀ b o,h₀.get? b=some o->s.heap.get? b=some o) ->
    (∀ h' tk,h'.DictOf knd d ((prs.drop i).foldl (fun l p=>stored l p.1 p.2) kvs)->(∀ b o,h₀.get? b=some o->h'.get? b=some o)->R (.ok (.ret .none)) {s with heap:=h',toks:=tk}) ->
    codeAny (model prog w) A (.builtin "dict.update.loop" ⟨[.ref d,.ref I,.int i c,.none],[]⟩) R s
 | 0,i,c,s,kvs,hk,st,dd,hl,h1,q=>by
   have hi:i=n:=hk
   subst hi
   refine codeAny_builtin tN ?_
   rw[Around.under_plainId lC _]
   (show wpAny _ A.in1 (pyNext (.ref I) >>= _) _ _ s;refine wpAny_bind (W.done s _ _ st fun h' tk hk'=>?_))
   have k':∀ c o,c≠I->s.heap.get? c=some o->h'.get? c=some o:=fun c o hc e=>hk' c o (by simpa using hc) e
   rw[List.drop_of_length_le (by omega)]at q
   have dd':h'.DictOf knd d kvs:=let ⟨o,es,ep,ho,r⟩:=dd;⟨o,es,ep,k' d o (Ne.symm hI) ho,r⟩
   exact wpAny_bind (wpAny_pure (wpAny_pure (q h' tk dd' fun b o e=>k' b o (h0 b o e).2 (h1 b o e))))
 | k+1,i,c,s,kvs,hk,st,dd,hl,h1,q=>by
   have hi:i < n:=by omega
   refine codeAny_builtin tN ?_
   rw[Around.under_plainId lC _]
   (show wpAny _ A.in1 (pyNext (.ref I) >>= _) _ _ s;refine wpAny_bind (W.item i s _ _ hi st fun v h2 tk2 hv st2 hk2=>?_))
   have k2:∀ c o,c≠I->s.heap.get? c=some o->h2.get? c=some o:=fun c o hc e=>hk2 c o (by simpa using hc) e
   have ep:prs[i]? = some prs[i]:=List.getElem?_eq_getElem (by omega)
   obtain⟨a,u,rfl,ht,hu⟩:=hP i v _ hv ep
   have h12:∀ b o,h₀.get? b=some o->h2.get? b=some o:=fun b o e=>k2 b o (h0 b o e).2 (h1 b o e)
   have ht2:h2.IsTuple a #[u,prs[i].2]:=let ⟨o,ho,r⟩:=ht;⟨o,h12 a o ho,r⟩
   have dd2:h2.DictOf knd d kvs:=let ⟨o,es,ep,ho,r⟩:=dd;⟨o,es,ep,k2 d o (Ne.symm hI) ho,r⟩
   refine wpAny_bind (wpAny_holding (wpAny_bind (wpAny_tryCatch (aB3 (s:={s with heap:=h2,toks:=tk2}) ht2 ?_))))
   dsimp only
   refine wpAny_holding (wpAny_dictSet_pairs (hsz:=by unfold sizeLine;omega) hu dd2 fun h3 dd3 hs3=>?_)
   refine wpAny_pure ⟨plainId_quiet lC _,?_⟩
   have st3:St (i+1) h3:=W.frame _ _ _ st2 fun c hc o e=>(hs3.2 c fun z=>hd (z ▸ hc)).trans e
   have ed:prs.drop i=prs[i]::prs.drop (i+1):=List.drop_eq_getElem_cons (by omega)
   refine dul W hd hI h0 prs hn hsz hP k (i+1) 0 _ _ (by omega) st3 dd3 (Nat.le_trans (aB4 ..) (by omega)) (fun b o e=>(hs3.2 b (h0 b o e).1).trans (h12 b o e)) fun h' tk dn kn=>?_
   refine q h' tk ?_ kn
   rw[ed];exact dn
end
end PySem
namespace PySem
section
variable{prog:Program}{w:World}{A:Around}{E:Value->Shared->Prop}{s:Shared}
end
section
variable{prog:Program}{w:World}{A:Around}{E:Value->Shared->Prop}{n:Nat}{P:Nat->Value->Prop}{St J:Nat->Heap->Prop}
end
open Sem (wp)
section
variable{prog:Program}{w:World}{A:Around}{E:Value->Shared->Prop}{κ:Type}[DecidableEq κ]{knd:KeyKind prog w κ}
theorem aB5{s:Shared}{l:Addr}{o:Obj}{its:List Value}{m:Nat}{prs:List (κ×Value)}{Q:Value->Shared->Prop}(hA:A.handled=none)(hx:s.heap.get? l=some o)(hc:o.cls=.type "list")(hdat:o.data=.seq its.toArray m)(hdn:o.dict=none)
  (hn:prs.length=its.length) (hsz:prs.length < 4000) (hP:∀ (i:Nat) v p,its[i]? = some v->prs[i]? = some p->∃ a u,v=.ref a/\s.heap.IsTuple a #[u,p.2]/\knd.is p.1 u=true)
  (q:∀ h' tk,h'.DictOf knd s.heap.objs.size (prs.foldl (fun l p=>stored l p.1 p.2) [])->(∀ b o,s.heap.get? b=some o->h'.get? b=some o)->Q (.ref s.heap.objs.size) {s with heap:=h',toks:=tk}) :
  wpAny (model prog w) A (call (.type "dict") [.ref l]) Q E s:=by
 refine callType_codes (Q₁:=fun obj s₁=>obj=.ref s.heap.objs.size/\s₁={s with heap:=s.heap.push {cls:=.type "dict",data:=.dict #[]}}) F.kt_called_dict (F.kt_typeCall_dict_1 _) F.entry_dict_init (kt_code_dict_new _ ⟨rfl,rfl⟩) ?_
 rintro obj s₁ ⟨rfl,rfl⟩
 have hnew:(s.heap.push {cls:=.type "dict",data:=.dict #[]}).DictOf knd s.heap.objs.size []:=Heap.DictOf.new s.heap
 have old:∀ b o,s.heap.get? b=some o->(s.heap.push {cls:=.type "dict",data:=.dict #[]}).get? b=some o:=fun b o e=>Heap.get?_push_of_some _ e
 have hlt:l < s.heap.objs.size:=Heap.lt_size hx
 refine⟨hnew.typeIs,F.args_dict_init_2 _ _,?_⟩
 have hTl:Shared.TypeIs {s with heap:=s.heap.push {cls:=.type "dict",data:=.dict #[]}} (.ref l) "list":=⟨_,old l _ hx,hc⟩
 unfold Builtin.«dict.__init__» Builtin.Dict.selfAndRest
 refine wpAny_bind (wpAny_bind (wpAny_notOrdered_dict hnew.typeIs (wpAny_pure ?_)))
 show wpAny _ _ (Builtin.Dict.updateFrom "dict.__init__" s.heap.objs.size (.ref l) [] .none) _ _ _
 unfold Builtin.Dict.updateFrom
 refine wpAny_bind (wpAny_typeOf hTl ?_)
 rw[if_pos (by decide)]
 refine wpAny_bind (aW9 (old l _ hx) hc hdat hdn ?_ fun h1 tk1 k1=>?_)
 ·exact hA
 rw[if_pos (by rfl)]
 refine wpAny_bind (wpAny_rule ?_)
 have hl1:h1.IsList l its.toArray:=⟨o,k1 l o (old l o hx),hc,m,hdat⟩
 refine wpAny_bind (wpAny_pyIter_list (s:=⟨h1,s.gens,s.drawn,tk1,s.os⟩) hl1 ?_)
 refine wpAny_pure ⟨plainId_quiet lC _,?_⟩
 have hd1:h1.DictOf knd s.heap.objs.size []:=let ⟨o,es,ep,ho,r⟩:=hnew;⟨o,es,ep,k1 _ o ho,r⟩
 have big:s.heap.objs.size < h1.objs.size:=let ⟨o,es,ep,ho,r⟩:=hd1;Heap.lt_size ho
 have hA1:A.in1.in1.handled=none:=hA
 refine dul (h₀:=s.heap) (n:=its.toArray.size) (Walks.list hA1 h1.objs.size l (Nat.ne_of_lt (Nat.lt_trans hlt big)) its.toArray) ?_ (Nat.ne_of_gt big) (fun b o e=>⟨Nat.ne_of_lt (Heap.lt_size e),Nat.ne_of_lt (Nat.lt_trans (Heap.lt_size e) big)⟩) prs (by simpa using hn) (by rw[List.size_toArray];omega) (fun i v p hv hp=>hP i v p (by simpa using hv) hp)
  its.toArray.size 0 0 _ [] (Nat.zero_add _) ⟨⟨_,Heap.get?_push_size _ rfl,rfl,rfl⟩,hl1.push _⟩ (hd1.push _) (Nat.le_refl _) (fun b o e=>Heap.get?_push_of_some _ (k1 b o (old b o e))) fun h' tk dd kk=>⟨rfl,q h' tk dd kk⟩
 simp only[List.mem_cons,List.not_mem_nil,or_false,not_or]
 exact⟨Nat.ne_of_lt big,Nat.ne_of_gt hlt⟩
end
end PySem
namespace L2
open PySem PySem.Spec PyProof.Rows
inductive PrsAt(H:Hp):List V->List (Key×V)->Prop
 | nil:PrsAt H [] []
 | cons {a:Addr} {k:Key} {v:V} {xs:List V} {prs:List (Key×V)}:H a=some (.tup [kV k,v])->PrsAt H xs prs->PrsAt H (.ref a::xs) ((k,v)::prs)
theorem PrsAt.raw{X:Cx}{pins:List (Addr×Obj)}{σ:St}{H:Hp}{s:Shared}(I:Inv X pins σ H s):∀ {xs:List V} {prs:List (Key×V)} {its:List Value},PrsAt H xs prs->cO xs its->∃ rs:List (Key×Value),KV prs rs/\rs.length=its.length /\
  ∀ (i:Nat) v p,its[i]? = some v->rs[i]? = some p->∃ a u,v=.ref a/\s.heap.IsTuple a #[u,p.2]/\(eV X.prog X.w).is p.1 u=true
 | _,_,_,.nil,.nil=>⟨[],.nil,rfl,fun i v p h=>by simp at h⟩
 | _,_,_,.cons (a:=a) (k:=k) e t,.cons hv ht=>by
   obtain⟨rs,h1,h2,h3⟩:=PrsAt.raw I t ht
   cases hv
   obtain⟨_,us,r,q,_⟩:=(show dQ X.prog X.w H s.heap a _ from I.hok a _ e)
   cases r with
   | cons ra rb=>cases rb with
     | cons rb rc=>
       cases rc
       refine⟨(k,_)::rs,.cons ⟨rfl,rb⟩ h1,by simp[h2],fun i v p hi hp=>?_⟩
       cases i with
       | zero=>
         simp at hi hp
         subst hi hp
         exact⟨a,_,rfl,q,bP8 ra⟩
       | succ i=>exact h3 i v p (by simpa using hi) (by simpa using hp)
noncomputable def bL2:List V->Hp->VK->Prop:=fun vs H Q=>∃ p xs prs,vs=[.ref p]/\fP H p=some (true,xs)/\PrsAt H xs prs/\prs.length < 4000/\∀ d,H d=none->Q (.ref d) (upd H d (.dK (mB [] prs)))
theorem aB6{X:Cx}(hc:X.calm=true):iT X (.type "dict") bL2:=by
 intro pins s σ H xs us Q I r h
 obtain⟨p,ys,prs,rfl,hq,hp,hl,q⟩:=h
 obtain⟨u,rfl,rx⟩:=rY r
 cases rx
 obtain⟨its,r',⟨o,n,e1,e2,e3,e4⟩,hz⟩:=I.list (fD hq)
 obtain⟨rs,k1,k2,k3⟩:=PrsAt.raw I hp r'
 have kl:prs.length=rs.length:=Paired.length k1
 refine aB5 (knd:=eV X.prog X.w) (prs:=rs) (I.ok.hd hc) e1 e2 e4 e3 k2 (by omega) k3 fun h' tk dd kk=>?_
 have hm:(mB [] prs).length<=sizeLine:=by
  have h1:=kO prs []
  rw[List.length_nil]at h1
  rw[sizeLine_eq];omega
 refine⟨.ref s.heap.objs.size,_,I.laid (t':=tk) kk (Nat.le_refl _) (cE6 hm ?_ (k1.merge .nil) dd),rfl,q _ (I.hok.fresh (Nat.le_refl _))⟩
 have:=I.big
 exact beq_eq_false_iff_ne.mpr (Nat.ne_of_gt this)
noncomputable def cI0:R2:=fun x y H Q=>∃ a v,x=.ref a/\cL6 H a y (some v)/\Q v H
theorem bE6{X:Cx}{o i:Expr}{pos:Pos}{td ty:TE}(hu:X.A.units+1 < cLine)(ho:PE X o td)(hi:PE X i ty)(hs:cL7 i):PE X (.Subscript o i pos) (tOp cI0 td ty):=bQ0 hu ho hi hs
theorem bE7{κ:Type}[DecidableEq κ]{l:List (κ×V)}{k:κ}{v:V}(h:k∉l.map Prod.fst):aI3 l k v=l++[(k,v)]:=by
 unfold aI3
 rw[if_neg]
 simp only[List.any_eq_true,decide_eq_true_eq,not_exists,not_and]
 exact fun p hp e=>h (by rw[← e];exact List.mem_map_of_mem hp)
theorem qA:∀ (prs acc:List (Key×V)),((acc++prs).map Prod.fst).Nodup->mB acc prs=acc++prs
 | [],acc,_=>by simp[mB]
 | p::prs,acc,h=>by
   show mB (aI3 acc p.1 p.2) prs=_
   have h':((acc.map Prod.fst)++p.1::prs.map Prod.fst).Nodup:=by simpa using h
   rw[bE7 fun z=>(List.nodup_append.mp h').2.2 _ z p.1 (by simp) rfl,qA prs (acc++[(p.1,p.2)]) (by simpa using h)]
   simp
end L2
namespace Dv
open PySem L2 Mr
noncomputable def bU1:List D->Option (List (Str×D))
 | []=>some []
 | .tup [.str z,v]::r=>(bU1 r).map fun l=>(z,v)::l
 | _=>none
noncomputable def bE8:FN:=fun ds=>match ds with
 | [.lst l]=>(bU1 l).bind fun prs=>if prs.length < 4000/\(prs.map Prod.fst).Nodup then some (.own (.dic (prs.map fun p=>.str p.1) (prs.map Prod.snd)))else none
 | _=>none
theorem aX0{H:Hp}:∀ {l:List D} {xs:List V} {prs:List (Str×D)},bU1 l=some prs->Rps H l xs->∃ ps:List (Key×V),PrsAt H xs ps/\ps.length=prs.length/\ps.map Prod.fst=prs.map (fun p=>.inr p.1)/\Rps H (prs.map Prod.snd) (ps.map Prod.snd)
 | [],_,_,e,.nil=>by cases e;exact⟨[],.nil,rfl,rfl,.nil⟩
 | d::l,_,_,e,.cons a t=>by
   unfold bU1 at e
   split at e
   ·rename_i he;cases he
   ·rename_i z v r he
    cases he
    obtain⟨prs,e1,e2⟩:=Option.map_eq_some_iff.mp e
    subst e2
    obtain⟨ps,h1,h2,h3,h4⟩:=aX0 e1 t
    obtain⟨p,xs,rfl,g1,g2⟩:=gB (.inl a)
    cases g2 with
    | cons ga gb=>cases gb with
      | cons gb gc=>
        cases gc
        cases ga
        exact⟨(.inr z,_)::ps,.cons g1 h1,by simp[h2],by simp[h3],.cons gb h4⟩
   ·cases e
theorem bE9:bA0 bL2 bE8:=by
 intro H ds vs Q res vw e k
 unfold bE8 at e
 split at e
 ·rename_i l
  obtain⟨prs,e1,e⟩:=aD e
  split at e
  ·rename_i hc
   cases e
   obtain⟨x,rfl,a⟩:=aA2 vw
   obtain⟨p,xs,rfl,h1,r1⟩:=gK a
   obtain⟨ps,g1,g2,g3,g4⟩:=aX0 e1 r1
   refine⟨p,xs,ps,rfl,h1,g1,by omega,fun d hd=>k _ _ (bV hd) ⟨d,rfl,hd,?_⟩⟩
   have nd:(ps.map Prod.fst).Nodup:=by
    rw[g3,show prs.map (fun p=>(Sum.inr p.1:Key))=(prs.map Prod.fst).map Sum.inr by simp]
    exact List.Pairwise.map _ (fun a b n z=>n (by injection z)) hc.2
   rw[qA ps [] (by simpa using nd),List.nil_append]
   refine⟨_,ps.map Prod.snd,aT,⟨?_,rfl⟩,g4.mono (.same (bV hd))⟩
   have:ps.map (fun kv=>bQ2 kv.1)=(ps.map Prod.fst).map bQ2:=by simp
   rw[this,g3]
   simp[bQ2]
  ·cases e
 ·cases e
noncomputable def wX:List D->List D->Str->Option D
 | .str x::ks,v::vs,z=>if x=z then some v else wX ks vs z
 | _,_,_=>none
noncomputable def cI1:F2:=fun d e=>match d,e with
 | .dic ks vs,.str z=>(wX ks vs z).map .val
 | _,_=>none
theorem zC{H:Hp}{z:Str}{v:D}:∀ {kvs:List (Key×V)} {vs:List D},Rps H vs (kvs.map Prod.snd)->wX (kvs.map fun kv=>bQ2 kv.1) vs z=some v->∃ x,aZ8 kvs (.inr z)=some x/\Rp H v x
 | [],_,_,h=>by cases h
 | (k,y)::kvs,_,.cons a t,h=>by
   cases k with
   | inl i=>cases h
   | inr x=>
     have h':(if x=z then some _ else wX (kvs.map fun kv=>bQ2 kv.1) _ z)=some v:=h
     by_cases hx:x=z
     ·rw[if_pos hx]at h';cases h'
      subst hx
      exact⟨y,qU rfl,a⟩
     ·rw[if_neg hx]at h'
      obtain⟨w,h1,h2⟩:=zC t h'
      exact⟨w,by rw[qV (fun e=>hx (by injection e))];exact h1,h2⟩
theorem bU2:pA cI0 cI1:=by
 intro H d1 d2 x y Q res v1 v2 e k
 unfold cI1 at e
 split at e
 ·rename_i ks vs z
  obtain⟨v,e1,rfl⟩:=Option.map_eq_some_iff.mp e
  obtain rfl:y=.str z:=by
   rcases v2 with r | ⟨p,_,o⟩
   ·cases r;rfl
   ·exact o.elim
  have hk:∃ p u ws,x=.ref p/\Rd H p u/\bQ3 u ks ws/\Rps H vs ws:=by
   rcases v1 with r | ⟨p,rfl,u,ws,h1,h2,h3⟩
   ·cases r with
    | dic h1 h2 h3=>exact⟨_,_,_,rfl,.inr ⟨_,h1⟩,h2,h3⟩
   ·exact⟨p,u,ws,rfl,.inl h1,h2,h3⟩
  obtain⟨p,u,ws,rfl,h1,h2,h3⟩:=hk
  cases u with
  | dK kvs=>
    obtain⟨rfl,rfl⟩:=h2
    obtain⟨x,g1,g2⟩:=zC h3 e1
    exact⟨p,x,rfl,.inl ⟨kvs,.inr z,h1,rfl,g1.symm⟩,k _ _ (.refl _) g2⟩
  | dT kvs=>
    obtain⟨rfl,rfl⟩:=h2
    cases kvs with
    | nil=>cases e1
    | cons a t=>cases e1
  | _=>exact h2.elim
 ·cases e
theorem cI2{X:Cx}{a b:Expr}{ra rb:DE}{pos:Pos}(hu:X.A.units+1 < cLine)(ha:GE X a ra)(hb:GE X b rb)(hs:cL7 b):GE X (.Subscript a b pos) (aV cI1 ra rb):=.mk fun Γ=>peW (bE6 hu (ha.to Γ) (hb.to Γ) hs) fun _ _ _=>kP bU2
end Dv
namespace L2
open PySem PySem.Spec PyProof.Rows
noncomputable def cI3:R2:=fun x y H Q=>∃ (l:Addr) (k:Int) (xs:List V),x=.ref l/\y=.int k/\fP H l=some (true,xs)/\0<=k/\k<=1000/\xs.length<=1000/\∀ r,H r=none->Q (.ref r) (upd H r (.lst (List.replicate k.toNat xs).flatten))
theorem bU3{X:Cx}:OpR X (binaryOp .Mult) cI3:=by
 intro pins s σ H x y v u Q I rx ry h
 obtain⟨l,k,xs,rfl,rfl,hH,h1,h2,hx,q⟩:=h
 cases rx
 obtain⟨t,rfl⟩:=ry
 obtain⟨its,r,⟨⟨c,d,da,sl⟩,n,e1,e2,e3,e4⟩,hz⟩:=I.list (fD hH)
 simp only at e2 e3 e4
 subst e2 e3 e4
 have hl:=r.length
 have hm:xs.length*k.toNat<=1000*1000:=Nat.mul_le_mul hx (by omega)
 have hlen:its.toArray.size*k.toNat<=sizeLine:=by rw[List.size_toArray,← hl,sizeLine_eq];omega
 have hcap:¬ its.toArray.size*k.toNat > (2 ^ 63-1) / 8:=by
  have:(sizeLine:Nat)<=(2 ^ 63-1) / 8:=by decide
  omega
 have hfit:¬ (!Builtin.List.listFitsIndex k)=true:=by
  rw[fitsIndex_both (by omega) (by omega)]
  exact Bool.false_ne_true
 have hlong:¬ Builtin.List.listTooLong (its.toArray.size*k.toNat)=true:=by
  rw[qM hlen]
  exact Bool.false_ne_true
 have hnew:List.foldl (fun x1 x2=>x1++x2) #[] (List.replicate (if its.toArray.isEmpty=true then 0 else k.toNat) its.toArray)=(List.replicate k.toNat its).flatten.toArray:=by
  rw[show ∀ m:Nat,List.foldl (fun x1 x2=>x1++x2) #[] (List.replicate m its.toArray)=(List.replicate m its).flatten.toArray from fun m=>by simpa using sH its m []]
  cases its with
  | nil=>simp
  | cons a r'=>rw[if_neg (by simp)]
 refine wpAny_binaryOp_repeat_ref (T:="list") (U:="int") (by decide) ⟨_,e1,rfl⟩ (fun s'=>typeIs_int s' k t) noFill_list_mul F.fills_int_mul F.slot_int_rmul repeat_list F.slot_int_index.lookup
  (call_meets F.slot_int_rmul (typeIs_int s k t) F.entry_int_rmul (F.args_int_rmul_2 _ _) (lm_int_rmul_list_any k t l its.toArray n none sl)
   ⟨e1,rfl,⟨_,e1,rfl⟩,call_meets F.slot_list_mul ⟨_,e1,rfl⟩ F.entry_list_mul (F.args_list_mul_2 _ _) (lm_list_mul_any l its.toArray n none sl k t hfit hcap hlong) ⟨e1,?_⟩⟩)
 rw[hnew]
 exact⟨.ref _,_,I.lnew (t':=s.toks) (r.rep k.toNat) (by rw[bO0,Nat.mul_comm,sizeLine_eq];omega),rfl,q _ I.fresh⟩
end L2
namespace Dv
open PySem L2 Mr
noncomputable def cI4:F2:=fun d e=>match d,e with
 | .lst l,.int i=>if 0<=i/\i<=1000/\l.length<=1000 then some (.own (.lst (List.replicate i.toNat l).flatten))else none
 | _,_=>none
theorem Rps.rep{H:Hp}{l:List D}{xs:List V}(h:Rps H l xs):∀ k:Nat,Rps H (List.replicate k l).flatten (List.replicate k xs).flatten
 | 0=>.nil
 | k+1=>by
   rw[List.replicate_succ,List.replicate_succ,List.flatten_cons,List.flatten_cons]
   exact h.append (h.rep k)
theorem bF0:pA cI3 cI4:=by
 intro H d1 d2 x y Q res v1 v2 e k
 unfold cI4 at e
 split at e
 ·split at e
  ·rename_i hc
   cases e
   obtain⟨p,xs,rfl,h1,r1⟩:=gK v1
   obtain rfl:=cR v2
   exact⟨p,_,xs,rfl,rfl,h1,hc.1,hc.2.1,by rw[← r1.length];exact hc.2.2,fun r hr=>k _ _ (bV hr) (nS hr (r1.rep _))⟩
  ·cases e
 ·cases e
theorem wY{l:List D}{i:Int}{K:Res->Prop}:OK1 (cI4 (.lst l) (.int i)) K=((0<=i/\i<=1000/\l.length<=1000)/\K (.own (.lst (List.replicate i.toNat l).flatten))):=by
 show OK1 (if _ then _ else none) K=_
 rw[bZ];rfl
noncomputable def cI5(C:MC):Prop:=∀ as (K K':Res->List Sl->Prop),(∀ r l,K r l->K' r l)->C as K->C as K'
structure GM1(E:Ex)(X:Cx)(st:Stmt)(m:MS):Prop where
 to:∀ Γ,PS X st (mTS Γ E m)
 mon:yO m
section
variable{X:Cx}{E:Ex}{st:Stmt}{ss kD:List Stmt}{r:DS}{a b m:MS}{pos:Pos}
theorem qB:yO (RS r):=fun _ _ _ w q=>cG q w
theorem bL3{Γ:Gm}{D:Ends}{σV:St}{H:Hp}(h:mTS Γ E (RS r) D σV H):dTS Γ E r D σV H:=by
 obtain⟨σ,ok,q⟩:=h
 obtain⟨o,e,q⟩:=jR.mp q
 exact⟨σ,ok,o,e,q⟩
theorem aX1(h:GSs E X ss r):GM E X ss (RS r):=⟨fun Γ=>cE7 (h.to Γ) fun _ _ _=>bL3,qB⟩
theorem bU4(h:GS E X st r):GM1 E X st (RS r):=⟨fun Γ=>psW (h.to Γ) fun _ _ _=>bL3,qB⟩
theorem cI6(h:GM1 E X st m):GM E X [st] m:=⟨fun Γ=>iS (h.to Γ),h.mon⟩
noncomputable def sqM(b:MS)(Q:Out->Prop)(o:Out):Prop:=match o with
 | .nx σ1=>b σ1 Q
 | o=>Q o
noncomputable def bA6(a b:MS):MS:=fun σ Q=>a σ (sqM b Q)
theorem rK(h1:yO a)(h2:yO b):yO (bA6 a b):=fun σ Q Q' w q=>h1 σ _ _ (fun o q=>by
 cases o with
 | nx σ1=>exact h2 σ1 _ _ w q
 | rt r σ'=>exact w _ q
 | bk σ'=>exact w _ q
 | ct σ'=>exact w _ q
 | ex c f σ'=>exact w _ q) q
theorem wZ(h1:GM1 E X st a)(h2:GM E X kD b):GM E X (st::kD) (bA6 a b) where
 to:=fun Γ=>cE7 (fR (h1.to Γ) (h2.to Γ)) fun D σV H ⟨σ,ok,q⟩=>⟨σ,ok,h1.mon σ _ _ (fun o q=>by
  cases o with
  | nx σ1=>exact fun σV1 H1 ok1 st1=>⟨σ1,ok1,h2.mon σ1 _ _ (fun o q=>q.after st1) q⟩
  | rt r σ'=>exact q
  | bk σ'=>exact q
  | ct σ'=>exact q
  | ex c f σ'=>exact q) q⟩
 mon:=rK h1.mon h2.mon
noncomputable def mIf(t:DT)(a b:MS):MS:=fun σ Q=>RT t σ fun x σ1=>if x=true then a σ1 Q else b σ1 Q
theorem cQ6{c:Expr}{l k:List Stmt}{t:DT}(hc:GT X c t)(ha:GM E X l a)(hb:GM E X k b):GM1 E X (.If c l k pos) (mIf t a b) where
 to:=fun Γ=>psW (zL (hc.to Γ) (ha.to Γ) (hb.to Γ)) fun D σV H ⟨σ,ok,q⟩=>by
  obtain⟨⟨x,σ1⟩,e1,q⟩:=jR.mp q
  refine⟨σ,ok,x,σ1,e1,fun H1 ok1 st1=>?_⟩
  dsimp only at q
  split at q
  ·rename_i hx;rw[if_pos hx];exact⟨σ1,ok1,ha.mon _ _ _ (fun o q=>q.after st1) q⟩
  ·rename_i hx;rw[if_neg hx];exact⟨σ1,ok1,hb.mon _ _ _ (fun o q=>q.after st1) q⟩
 mon:=fun σ Q Q' w q=>cG q fun x q=>by
  dsimp only at q ⊢
  split at q
  ·rename_i hx;rw[if_pos hx];exact ha.mon _ _ _ w q
  ·rename_i hx;rw[if_neg hx];exact hb.mon _ _ _ w q
noncomputable def tO(i n:Nat)(C:MC)(ra:DA):MS:=fun σ Q=>OK1 (ra σ) fun x=>OK1 (nR x.2 x.1) fun as=>(as.length=n/\eM x.1=true)/\C as fun y as'=>OK1 (cM0 i y (iL x.1 as' 0 x.2)) fun σ2=>Q (.nx σ2)
theorem bF1{Γ:Gm}{i:Nat}{x:Res}{σ σ1 σ2:Sg}{σV:St}{H H1:Hp}{v:V}(ok1:StOk Γ H1 σ1 σV)(r1:iW Γ H1 σ1 σV x v)(st1:Step σ σV H σ1 σV H1)(f1:Frh H x v)(e2:cM0 i x σ1=some σ2) :
  StOk Γ H1 σ2 (σV.set i (some v))/\Step σ σV H σ2 (σV.set i (some v)) H1:=by
 cases x with
 | val d=>
   have e2':(if eX σ1 i=true then some (σ1.set i (some ⟨.val,d⟩))else none)=some σ2:=e2
   split at e2'
   ·rename_i hp;cases e2';exact⟨ok1.put hp r1,st1.put hp .val (.inl rfl)⟩
   ·cases e2'
 | own d=>
   have e2':(if eX σ1 i=true then some (σ1.set i (some ⟨.own,d⟩))else none)=some σ2:=e2
   split at e2'
   ·rename_i hp
    cases e2'
    obtain⟨p,rfl,q1,q2,q3⟩:=r1
    exact⟨ok1.putOwn hp q1 q2 q3,st1.put hp .own (.inr ⟨rfl,fun p e=>f1 _ p rfl e⟩)⟩
   ·cases e2'
 | slot j=>cases e2
theorem rL{i n:Nat}{C:MC}{ra:DA}(hC:cI5 C):yO (tO i n C ra):=fun σ Q Q' w q=>cG q fun x q=>cG q fun as q=>⟨q.1,hC _ _ _ (fun y as' q=>cG q fun σ2 q=>w _ q) q.2⟩
theorem aX2{i n:Nat}{C:MC}{ra:DA}{EK:XK}(hC:cI5 C)(h:∀ Γ,PS X st (bH5 (zR (aJ7 n C) [] EK (dTA Γ ra)) (qJ i))):GM1 E X st (tO i n C ra) where
 to:=fun Γ=>psW (h Γ) fun D σV H ⟨σ,ok,q⟩=>by
  obtain⟨⟨rs,σ1⟩,e1,q⟩:=jR.mp q
  obtain⟨as,e2,⟨hl,hn⟩,q⟩:=jR.mp q
  refine⟨σ,ok,rs,σ1,e1,fun vs H1 ok1 r1 st1 f1=>?_⟩
  show aJ7 n C (vs++[]) H1 _ EK
  rw[List.append_nil]
  obtain⟨ao,c⟩:=sU e2 hn ok1 r1 st1 f1
  refine⟨as,ao,hl,hC _ _ _ (fun y as' q v H2 po nw=>?_) q⟩
  obtain⟨q1,q2,q3,q4⟩:=c y as' v H2 po nw
  obtain⟨σ2,e3,q⟩:=jR.mp q
  obtain⟨p1,p2⟩:=bF1 q1 q2 q3 q4 e3
  exact q _ _ p1 p2
 mon:=rL hC
end
theorem xA{len:Nat}{m:MS}(hm:yO m):cI5 (bX4 len m):=fun as K K' w q=>hm _ _ _ (fun o q=>by
 cases o with
 | nx σ=>exact w _ _ q
 | rt r σ=>obtain⟨r',e,q⟩:=q;exact⟨r',e,w _ _ q⟩
 | bk σ=>exact q
 | ct σ=>exact q
 | ex c f σ=>exact q) q
theorem aB7{C:MC}{K:PySem.W.Frag}{H:Hp}{a:Addr}{ns:List Int}(hC:cI5 C)(hK:aK7 K=true)(hO:cC3 H)(hS:SqL K H a (ns.map V.int))(h:C [⟨.val,.lst (ns.map D.int)⟩] fun y _=>y=.val (.bl true)) :
  aJ7 1 C [.ref a] H (fun v _=>v=.bl true) (fun _ _ _=>False):=
 ⟨_,bR8 hK hO hS,rfl,hC _ _ _ (fun y as' e v H' po nw=>by subst e;cases nw;rfl) h⟩
theorem zD{Γ:Gm}{k:Nat}{ri:DE}{σ1 σ3:Sg}{σV:St}{H1:Hp}{d:D}{v:V}{Q:St->Hp->Prop}(ok1:StOk Γ H1 σ1 σV)(r1:Rp H1 d v)(e:yS k ri (dC d) σ1=some (.nx σ3))
  (kk:∀ H3,StOk Γ H3 σ3 σV->Step σ1 σV H1 σ3 σV H3->Q σV H3):bW8 (aC7 k) (dTE Γ ri) aF4 v σV H1 Q:=by
 have e':(if uE "list" k σ1=true then(ri σ1).bind fun y=>(rd y.2 y.1).bind fun di=>match di with
   | .int i=>(bA2 (fun a _=>(cG6 i d a).map fun b=>(b,.non)) k [] y.2).bind fun z=>some (Out.nx z.2)
   | _=>none else none)=some (.nx σ3):=e
 split at e'
 ·rename_i hn
  obtain⟨⟨y,σ2⟩,e2,e'⟩:=aD e'
  obtain⟨di,e3,e'⟩:=aD e'
  obtain⟨s0,hs0,hm0,ht0⟩:=mW hn
  obtain⟨p,ep,ow⟩:=ok1.ownAt hs0 hm0
  dsimp only at e'
  split at e'
  ·rename_i i
   obtain⟨⟨z,σ4⟩,e4,e'⟩:=aD e'
   cases e'
   obtain⟨s,d',y',hs,hm,e5,rfl,rfl⟩:=jH e4
   obtain⟨b,e6,e7⟩:=Option.map_eq_some_iff.mp e5
   cases e7
   refine⟨_,ep,σ1,ok1,y,σ2,e2,fun vi H2 ok2 r2 st2 f2=>?_⟩
   obtain rfl:=cR (r2.vw ok2 e3)
   obtain⟨p',ep',ow2⟩:=ok2.ownAt hs (gO hm)
   rw[ep]at ep';cases ep'
   have rv:Rp H2 d v:=Rp.mono (st2.ext ok1) r1
   obtain⟨m,sd⟩:=s
   cases sd with
   | lst l=>
     obtain⟨j,e8,e9⟩:=Option.map_eq_some_iff.mp e6
     cases e9
     obtain⟨xs,h1,h2⟩:=jZ ow2
     refine⟨p,xs,i,j,rfl,rfl,h1,by rw[← h2.length];exact e8,?_⟩
     obtain⟨ok3,st3⟩:=ok2.write (d':=.lst (l.set j d)) (o':=.lst (xs.set j v)) hs hm ep ⟨_,aT,(h2.set j rv).mono (dR.ext ow2)⟩
     exact kk _ ok3 (st2.trans st3)
   | _=>cases e6
  ·cases e'
 ·cases e'
noncomputable def bU5(k:Nat)(r1 r2 re:DE):DS:=fun σ=>(re σ).bind fun x=>match x.1 with
 | .val (.tup [d,e])=>(yS k r1 (dC d) x.2).bind fun o=>match o with
   | .nx σ1=>(yS k r2 (dC e) σ1).bind fun o=>match o with
     | .nx σ2=>some (.nx σ2)
     | _=>none
   | _=>none
 | _=>none
theorem bU6{X:Cx}{E:Ex}{K:PySem.W.Frag}{st:Stmt}{k:Nat}{r1 r2 re:DE}(h:∀ Γ,PS X st (bH5 (dTE Γ re) (uR K 2 (aD4 (bW8 (aC7 k) (dTE Γ r1) aF4) (aD4 (bW8 (aC7 k) (dTE Γ r2) aF4) cL4))))):GS E X st (bU5 k r1 r2 re):=.mk fun Γ=>psW (h Γ) fun D σV H ⟨σ,ok,o,e,kk⟩=>by
 obtain⟨⟨x,σ1⟩,e1,e⟩:=aD e
 refine⟨σ,ok,x,σ1,e1,fun v H1 ok1 q1 st1 f1=>?_⟩
 dsimp only at e
 split at e
 ·rename_i d e0
  obtain⟨o1,e2,e⟩:=aD e
  split at e
  ·rename_i σ2
   obtain⟨o2,e3,e⟩:=aD e
   split at e
   ·rename_i σ3
    cases e
    obtain⟨p,xs,rfl,h1,h2⟩:=gB (.inl q1)
    cases h2 with
    | cons ra t=>cases t with
      | cons rb t=>
        cases t
        refine⟨_,dI h1,rfl,_,_,rfl,zD ok1 ra e2 fun H2 ok2 st2=>⟨_,_,rfl,zD ok2 (Rp.mono (st2.ext ok1) rb) e3 fun H3 ok3 st3=>⟨rfl,kk _ _ ok3 ((st1.trans st2).trans st3)⟩⟩⟩
   ·cases e
  ·cases e
 ·cases e
theorem xB{k:Nat}{r1 r2 re:DE}{σ:Sg}{Q:Out->Prop}:RS (bU5 k r1 r2 re) σ Q=RE re σ fun x σ1=>OK1 (match x with | .val (.tup [d,e])=>some (d,e) | _=>none) fun de=>
  RS (yS k r1 (dC de.1)) σ1 fun o=>OK1 (match o with | .nx σ2=>some σ2 | _=>none) fun σ2=>RS (yS k r2 (dC de.2)) σ2 fun o=>OK1 (match o with | .nx σ2=>some σ2 | _=>none) fun σ2=>Q (.nx σ2):=by
 unfold RS RE
 show OK1 ((re σ).bind _) Q=_
 rw[aO]
 congr 1;funext x
 obtain⟨x,σ1⟩:=x
 dsimp only
 split
 ·show OK1 ((yS _ _ _ _).bind _) Q=OK1 (yS _ _ _ _) _
  rw[aO]
  congr 1;funext o
  cases o with
  | nx σ2=>
    show OK1 ((yS _ _ _ _).bind _) Q=OK1 (yS _ _ _ _) _
    rw[aO]
    congr 1;funext o
    cases o<;>rfl
  | _=>rfl
 ·rfl
end Dv
namespace L2
open PySem Dv
inductive FQ(Q:Hp->Prop):Hp->Prop
 | done {H:Hp}:Q H->FQ Q H
 | step {H:Hp} {p:Addr} {u:HO}:H p=some u->Fz u->(∀ o,FQ Q (upd H p (.frz o u)))->FQ Q H
theorem bU7{P:Program}{w:World}{H₀ H:Hp}{fs ex:List Addr}{h₀ h:Heap}{p:Addr}{u:HO}(un:Un fs ex H₀ H h₀ h)(ok:HOk P w H h)(e:H p=some u)(hu:Fz u):∃ o,Un fs ex H₀ (upd H p (.frz o u)) h₀ h/\HOk P w (upd H p (.frz o u)) h:=by
 have nt:∀ b xs,H b=some (.tup xs)->b≠p:=fun b xs q z=>by subst z;rw[e]at q;cases q;exact hu
 have nf:∀ b o x,H b=some (.frz o x)->b≠p:=fun b o x q z=>by subst z;rw[e]at q;cases q;exact hu
 have no:∀ b x,H b=some (.own x)->b≠p:=fun b x q z=>by subst z;rw[e]at q;cases q;exact hu
 have nb:∀ b x,H b=some (.tbl x)->b≠p:=fun b x q z=>by subst z;rw[e]at q;cases q;exact hu
 have nn:∀ b,H b=none->b≠p:=fun b q z=>by subst z;rw[e]at q;cases q
 obtain⟨o,ho⟩:∃ o,h.get? p=some o:=by
  have:=ok p u e
  cases u with
  | lst xs=>obtain⟨_,_,_,_,q⟩:=this;exact⟨_,q⟩
  | dK kvs=>obtain⟨_,_,_,_,ob,_,_,q,_⟩:=this;exact⟨_,q⟩
  | dT kvs=>obtain⟨_,_,_,_,ob,_,_,q,_⟩:=this;exact⟨_,q⟩
  | _=>exact hu.elim
 have st:∀ a x,dQ P w H h a x->dQ P w (upd H p (.frz o u)) h a x:=fun a x k=>
  k.stay (fun _ _ _ q=>q) (fun b q=>by rw[aK (no b _ q)];exact q) fun b xs q=>by rw[aK (nt b _ q)];exact q
 refine⟨o,⟨un.keep,un.slot,fun b ob q n hx=>?_,un.there,fun b xs q=>?_,fun b ob x q=>?_,fun b ps q=>?_⟩,fun a x q=>?_⟩
 ·have:=un.free b ob q n hx
  rw[aK (nn b this)];exact this
 ·have:=un.tups b xs q
  rw[aK (nt b _ this)];exact this
 ·have:=un.frzs b ob x q
  rw[aK (nf b _ _ this)];exact this
 ·obtain⟨m,e2⟩:=un.tbls b ps q
  exact⟨m,by rw[aK (nb b _ e2)];exact e2⟩
 ·by_cases ha:a=p
  ·subst ha
   rw[aT]at q;cases q
   exact⟨ho,st a u (ok a u e)⟩
  ·rw[aK ha]at q
   exact st a x (ok a x q)
noncomputable def spF(sp:Sp):Sp:=fun vs H Q E=>sp vs H (fun v H'=>FQ (Q v) H') E
theorem FnOk.fz{P:Program}{w:World}{K:PySem.W.Frag}{mg:Str->Option Value}{base:Heap}{CX:CXT}{k:Nat}{f:Addr}{fd:FuncData}{ps:List Str}{sp:Sp}(F:FnOk P w K mg base CX k f fd ps sp):FnOk P w K mg base CX k f fd ps (spF sp):=
 ⟨fun vs H Q E q=>F.len vs H _ E q,fun A outer s H args us vs Q E hr he hb hv hs=>codeAny_mono (F.run A outer s H args us vs _ E hr he hb hv hs) fun r s' q=>by
  cases r with
  | error e=>exact q
  | ok x=>
    cases x with
    | ret u=>
      obtain⟨v,H',q1,q2,q3,q4,q5,q6⟩:=(show CE outer P w H s _ u s' from q)
      show CE outer P w H s Q u s'
      clear q
      induction q6 with
      | done q=>exact⟨v,_,q1,q2,q3,q4,q5,q⟩
      | step e hu _ ih=>
        obtain⟨o,q3',q4'⟩:=bU7 q3 q4 e hu
        exact ih o q3' q4'
    | _=>exact q⟩
end L2
namespace Dv
open PySem L2 Mr
noncomputable abbrev qP(q:Str×List Str):D:=.tup [.str q.1,.tup (q.2.map D.str)]
noncomputable abbrev qD(qs:List (Str×List Str)):D:=.tup (qs.map qP)
theorem bU8{H:Hp}{p:Addr}{i j m:Int}(hp:H p=some (.lst [.int i,.int j])):ArgOk H [⟨.par,.lst [.int i,.int j]⟩,⟨.val,.int m⟩] [.ref p,.int m]:=by
 refine⟨rfl,fun n s e=>?_,fun n l s t q hn e1 e2 m1 m2 v1 v2=>?_,fun n s e=>?_⟩
 ·match n,e with
  | 0,e=>cases e;exact⟨_,rfl,p,rfl,_,hp,iG [i,j]⟩
  | 1,e=>cases e;exact⟨_,rfl,.int m⟩
 ·match n,e1,l,e2 with
  | 0,_,0,_=>exact hn rfl
  | 0,_,1,_=>cases v2
  | 1,e1,_,_=>cases e1;cases m1
 ·match n,e with
  | 0,e=>cases e;exact fun z=>nomatch z
  | 1,e=>cases e;exact fun z=>nomatch z
theorem bU9{p c:Addr}{i j m:Int}(h:bR0 [⟨.par,.lst [.int i,.int j]⟩,⟨.val,.int m⟩] [.ref p,.int m] c):c=p:=by
 obtain⟨n,s,e,mt,ev⟩:=h
 match n,e with
 | 0,_=>cases ev;rfl
 | 1,_=>cases ev
theorem bF2{H H':Hp}{p:Addr}{i j i' j' m:Int}(po:PostOk [⟨.par,.lst [.int i,.int j]⟩,⟨.val,.int m⟩] [.ref p,.int m] H [⟨.par,.lst [.int i',.int j']⟩,⟨.val,.int m⟩] H'):fF H' p/\SameBut p H H':=by
 refine⟨?_,fun c o n e=>po.fr c o e fun z=>n (bU9 z)⟩
 obtain⟨s',v,e1,_,e3,e4⟩:=po.rel 0 _ rfl rfl
 cases e1;cases e3
 obtain⟨q,eq,xs,hx,hr⟩:=(cU (s:=⟨.par,.lst [.int i',.int j']⟩) (fun z=>nomatch z)).mp e4
 cases eq
 rw[Rps.ints_inv (ns:=[i',j']) hr]at hx
 exact⟨i',j',hx⟩
theorem cI7{t:DT}{a b:MS}(ha:yO a)(hb:yO b):yO (mIf t a b):=fun σ Q Q' w q=>cG q fun x q=>by
 dsimp only at q ⊢
 split at q
 ·rename_i hx;rw[if_pos hx];exact ha _ _ _ w q
 ·rename_i hx;rw[if_neg hx];exact hb _ _ _ w q
noncomputable def cM6(ls:List (List Int)):Prop:=1<=ls.length/\ls.length<=6/\∀ l∈ls,l.length<=6/\∀ n∈l,0<=n/\n < 6
noncomputable abbrev tP(ls:List (List Int)):D:=.lst (ls.map fun l=>.lst (l.map D.int))
noncomputable def cRS:MC:=fun as K=>∃ a b:Int,as=[⟨.par,.lst [.int a,.int b]⟩]/\∀ ls a' b',cM6 ls->K (.own (tP ls)) [⟨.par,.lst [.int a',.int b']⟩]
theorem aX3:cI5 cRS:=fun as K K' w ⟨a,b,e,q⟩=>⟨a,b,e,fun ls a' b' h=>w _ _ (q ls a' b' h)⟩
end Dv
namespace Mr
open PySem L2 Dv
noncomputable def gF:DS:=(bN (jO (dJ (aV gtI (aV ixD (aH 0) (dC (.int 0))) (dC (.int 0)))) (bN (cC 2 (aV aC9 (aV ixD (aH 0) (dC (.int 0))) (aH 1)))
 (bN (yS 0 (dC (.int 0)) (aV cM4 (aV ixD (aH 0) (dC (.int 0))) (aH 1)))
 (gU (aH 2)))) eL)
 (bN (cC 3 (aV aC9 (aV vH (aV ixD (aH 0) (dC (.int 1))) (dC (.int 69623))) (dC (.int 2147483647))))
 (bN (yS 0 (dC (.int 1)) (aV gD (aV aC9 (aV gD (aV vH (aH 3) (dC (.int 48271))) (dC (.int 30103))) (dC (.int 2147483629))) (dC (.int 1))))
 (gU (aV aC9 (aV cM4 (aV gD (aV vH (aH 3) (dC (.int 2147483647))) (aV ixD (aH 0) (dC (.int 1)))) (dC (.int 8191))) (aH 1))))))
noncomputable def aF:Dv.Run:=pQ 4 gF
noncomputable def dG:DS:=(bN (cC 2 (dCB lO (aC (aH 1) aN)))
 (bN (cC 3 (iI aN))
 (bN (pP (dJ (aV gtI (dCB iR (aC (aH 2) aN)) (dC (.int 0))))
 (iQ (jV "list" 3 aA5 (aC (dFz (jV "list" 2 sX (aC (dFz (aX 2 aF (aC (aH 0) (aC (dCB iR (aC (aH 2) aN)) aN)))) aN))) aN))))
 (gU (aH 3)))))
noncomputable def aY:Dv.Run:=pQ 4 dG
noncomputable def gG:DS:=(gU (dSl (aX 2 aY (aC (aH 0) (aC (aH 1) aN))) oZ (dP (aV gD (dC (.int 1)) (aX 2 aF (aC (aH 0) (aC (dCB aA4 (aC (dC (.int 4)) (aC (dCB iR (aC (aH 1) aN)) aN))) aN)))))))
noncomputable def bQ:Dv.Run:=pQ 2 gG
noncomputable def cP:DS:=(bN (cC 1 (aV gD (dC (.int 1)) (aX 2 aF (aC (aH 0) (aC (dC (.int 6)) aN)))))
 (bN (cC 2 (aV gD (dC (.int 1)) (aX 2 aF (aC (aH 0) (aC (dC (.int 6)) aN)))))
 (bN (jO (dJ (aV (eqD false) (aX 2 aF (aC (aH 0) (aC (dC (.int 3)) aN))) (dC (.int 0)))) (gU (dE [5] (yL (aC (aH 2) aN)) (dgN 5) lK (dFz (aX 2 bQ (aC (aH 0) (aC (dCB wU (aC (aH 1) aN)) aN)))))) eL)
 (bN (cC 3 (iI (aC (dFz (aX 2 bQ (aC (aH 0) (aC (dCB wU (aC (aH 1) aN)) aN)))) aN)))
 (bN (cC 4 (dCB lO (aC (aV ixD (aH 3) (dC (.int 0))) aN)))
 (bN (rT (yL (aC (aV cF7 (aH 2) (dC (.int 1))) aN)) (dgN 5)
 (bN (cC 6 (aX 2 bQ (aC (aH 0) (aC (aV ixD (aH 3) (aX 2 aF (aC (aH 0) (aC (dCB iR (aC (aH 3) aN)) aN)))) aN))))
 (bN (cC 7 (dE [8] (yL (aC (aH 1) aN)) (dgN 8) (dJ (aV (inD true) (aH 8) (aH 4))) (dFz (aH 8))))
 (bN (cC 6 (aV gD (dSl (aH 6) oZ (dP (aX 2 aF (aC (aH 0) (aC (aV gD (dCB iR (aC (aH 6) aN)) (dC (.int 1))) aN))))) (dSl (aH 7) oZ (dP (aX 2 aF (aC (aH 0) (aC (dC (.int 3)) aN)))))))
 (bN (jO (dJ (aV (eqD false) (aH 6) (iI aN))) (cC 6 (dSl (aH 4) oZ (dP (dC (.int 1))))) eL)
 (bN (iQ (jV "list" 3 aA5 (aC (dFz (dSl (aH 6) oZ (dP (dC (.int 4))))) aN)))
 (iQ (qX "list" 4 bD6 (aC (dE [8] (dIt (aV ixD (aH 3) (bA1 cM3 (dC (.int 1))))) (dgN 8) (dJ (aV (inD true) (aH 8) (aH 4))) (dFz (aH 8))) aN)))))))))
 (gU (aH 3))))))))
noncomputable def bW:Dv.Run:=pQ 9 cP
noncomputable def fK:DS:=(bN (cC 2 (dC (.str "abcdefghijklmnopqrstuvwxyz")))
 (bN (jO (dJ (aV (eqD false) (aX 2 aF (aC (aH 0) (aC (dC (.int 5)) aN))) (dC (.int 0)))) (bN (cM2 3 4 (aC (aV ixD (aH 2) (aX 2 aF (aC (aH 0) (aC (dC (.int 13)) aN)))) (aC (aV ixD (aH 2) (aV gD (dC (.int 13)) (aX 2 aF (aC (aH 0) (aC (dC (.int 13)) aN))))) aN)))
 (gU (dSl (iI (aC (dFz (aH 3)) (aC (dFz (aV gD (aH 3) (aH 4))) (aC (dFz (aH 4)) (aC (dFz (aV gD (aH 4) (aH 3))) (aC (dFz (aV gD (aH 3) (aH 3))) (aC (dFz (aV gD (aV gD (aH 3) (aH 4)) (aH 3))) (aC (dFz (aV gD (aH 4) (aH 4))) (aC (dFz (aV gD (aV gD (aH 3) (aH 3)) (aH 4))) aN))))))))) oZ (dP (aH 1))))) eL)
 (bN (cC 5 (bA1 (aV8 "") (dE [10] (yL (aC (aX 2 aF (aC (aH 0) (aC (dC (.int 5)) aN))) aN)) (dgN 10) lK (aV ixD (aH 2) (aX 2 aF (aC (aH 0) (aC (dC (.int 26)) aN)))))))
 (bN (cC 6 (aX 2 aF (aC (aH 0) (aC (aV gD (dCB iR (aC (aH 5) aN)) (dC (.int 1))) aN))))
 (bN (cC 7 (aX 2 aF (aC (aH 0) (aC (dC (.int 26)) aN))))
 (bN (cC 8 (aX 2 aF (aC (aH 0) (aC (dC (.int 3)) aN))))
 (bN (cC 9 (iI aN))
 (bN (rT (yL (aC (aH 1) aN)) (dgN 10)
 (bN (cC 11 (aV gD (aV gD (dSl (aH 5) oZ (dP (aH 6))) (aV ixD (aH 2) (aV aC9 (aV gD (aH 7) (aV vH (dC (.int 5)) (aH 10))) (dC (.int 26))))) (dSl (aH 5) (dP (aH 6)) oZ)))
 (iQ (jV "list" 9 aA5 (aC (dFz (aV gD (aH 11) (aV vH (dC (.str "z")) (dCB bK6 (aC (aJ0 (aV (eqD false) (aH 8) (dC (.int 1))) (aV (eqD false) (aV aC9 (aH 10) (dC (.int 2))) (dC (.int 1)))) aN))))) aN)))))
 (gU (aH 9))))))))))
noncomputable def cL:Dv.Run:=pQ 12 fK
noncomputable def cQ:MS:=(bA6 (RS (cC 1 (aX 2 aF (aC (aH 0) (aC (dC (.int 2)) aN)))))
 (bA6 (mIf (dJ (aV (eqD false) (aH 1) (dC (.int 0)))) (tO 2 1 cRS (aC (aH 0) aN)) (RS (cC 2 (aX 1 bW (aC (aH 0) aN)))))
 (RS (bN (cC 3 (aX 2 aY (aC (aH 0) (aC (aX 2 cL (aC (aH 0) (aC (dC (.int 6)) aN))) aN))))
 (bN (cC 4 (dFz (aH 3)))
 (bN (jO (dJ (aV gtI (aX 2 aF (aC (aH 0) (aC (dC (.int 4)) aN))) (dC (.int 0)))) (cC 4 (aX 2 cL (aC (aH 0) (aC (dC (.int 6)) aN)))) eL)
 (bN (cC 5 (iI aN))
 (bN (rT (aW1 (aX 2 aY (aC (aH 0) (aC (aH 2) aN)))) (iK 2 (bS (dgN 6) (bS (dgN 7) gX)))
 (iQ (jV "list" 5 aA5 (aC (aC8 (aC (aV ixD (aH 4) (aH 6)) (aC (dCB bA5 (aC (dE [8] (dIt (aX 2 aY (aC (aH 0) (aC (aH 7) aN)))) (dgN 8) lK (aV ixD (aH 3) (aH 8))) aN)) aN))) aN))))
 (gU (dCB bA5 (aC (aH 5) aN)))))))))))
noncomputable def cH:MC:=bX4 9 cQ
theorem dX:yO cQ:=(rK qB (rK (cI7 (rL aX3) qB) qB))
noncomputable def hX:DS:=(bN (cC 2 (aV gD (aV vH (dC (.int 7919)) (aH 1)) (dC (.int 11))))
 (bN (jO (dJ (aV ltI (aH 1) (dCB iR (aC (aH 0) aN)))) (cC 2 (aV ixD (aH 0) (aH 1))) (jO (dJ (aV gtI (dCB iR (aC (aH 0) aN)) (dC (.int 0)))) (cC 2 (aV gD (aH 2) (aV vH (aV aC9 (aV ixD (aH 0) (aV aC9 (aH 1) (dCB iR (aC (aH 0) aN)))) (dC (.int 2147483629))) (dC (.int 69623))))) eL))
 (bN (cC 3 (aV gD (aV aC9 (aV gD (aV vH (aV aC9 (aH 2) (dC (.int 2147483629))) (dC (.int 48271))) (aV vH (dC (.int 40692)) (aH 1))) (dC (.int 2147483629))) (dC (.int 1))))
 (gU (iI (aC (dFz (aV vH (aH 2) (dCB bK6 (aC (aV geI (aH 2) (aV cP6 (dC (.int 10)) (dC (.int 18)))) aN)))) (aC (dFz (aH 3)) aN)))))))
noncomputable def cN:Dv.Run:=pQ 4 hX
noncomputable def dS:DS:=(bN (cC 2 (aV cI1 (dCB bE8 (aC (aH 0) aN)) (aH 1)))
 (bN (cC 3 (dE [5,6] (dIt (aH 0)) (iK 2 (bS (dgN 5) (bS (dgN 6) gX))) (dJ (aV (eqD true) (aH 5) (aH 1))) (aC8 (aC (dFz (aH 5)) (aC (dFz (aH 6)) aN)))))
 (bN (cC 4 (dE [7] (dIt (aH 2)) (dgN 7) (dJ (aV (eqD true) (dE [5,6] (dIt (aH 3)) (iK 2 (bS (dgN 5) (bS (dgN 6) gX))) (dJ (aV (inD false) (aH 7) (aH 6))) (dC (.int 1))) (iI aN))) (dFz (aH 7))))
 (gU (dE [5,6] (dIt (aH 3)) (iK 2 (bS (dgN 5) (bS (dgN 6) gX))) (dJ (dCB cG3 (aC (dE [7] (dIt (aH 4)) (dgN 7) lK (aV (inD false) (aH 7) (aH 6))) aN))) (dFz (aH 5)))))))
noncomputable def bI:Dv.Run:=pQ 8 dS
noncomputable def fL:DS:=(bN (cC 2 (dCB lO (aC (aH 1) aN)))
 (bN (cC 3 (iI aN))
 (bN (pP (dJ (aV gtI (dCB iR (aC (aH 2) aN)) (dC (.int 0))))
 (bN (cC 4 (dE [5,7] (dIt (aH 2)) (iK 2 (bS (dgN 5) (bS (dgN 7) gX))) (dOr (dJ (aV (eqD false) (dCB iR (aC (aH 2) aN)) (dC (.int 1)))) (dJ (aV (eqD true) (aX 2 bI (aC (aH 2) (aC (aH 5) aN))) (iI aN)))) (dFz (aH 5))))
 (bN (jO (dJ (aV (eqD false) (aH 4) (iI aN))) (cC 4 (iI (aC (aV ixD (aV ixD (aH 2) (dC (.int 0))) (dC (.int 0))) aN))) eL)
 (bN (cC 5 (aV ixD (aH 4) (aX 2 aF (aC (aH 0) (aC (dCB iR (aC (aH 4) aN)) aN)))))
 (bN (cC 6 (aV gD (aX 2 bI (aC (aH 2) (aC (aH 5) aN))) (aV cI4 (iI (aC (dC .non) aN)) (dCB bK6 (aC (aV (eqD false) (dCB iR (aC (aH 2) aN)) (dC (.int 1))) aN)))))
 (bN (jO (dJ (aV (eqD false) (aH 6) (iI aN))) (cC 6 (dE [9,7] (dIt (aH 2)) (iK 2 (bS (dgN 9) (bS (dgN 7) gX))) (dJ (aV (eqD true) (aH 9) (aH 5))) (dFz (aH 9)))) eL)
 (bN (iQ (jV "list" 3 aA5 (aC (aC8 (aC (dFz (aH 5)) (aC (aV ixD (aH 6) (aX 2 aF (aC (aH 0) (aC (dCB iR (aC (aH 6) aN)) aN)))) aN))) aN)))
 (cC 2 (dE [8] (dIt (aH 2)) (dgN 8) (dJ (aV (eqD true) (aV ixD (aH 8) (dC (.int 0))) (aH 5))) (dFz (aH 8)))))))))))
 (gU (aH 3)))))
noncomputable def dL:Dv.Run:=pQ 10 fL
noncomputable def eO:DS:=(bN (cC 3 (aV gD (dE [7,10] (dIt (aH 1)) (iK 2 (bS (dgN 7) (bS (dgN 10) gX))) lK (dFz (aH 7))) (iI (aC (dC (.str "zzz")) (aC (dC .non) aN)))))
 (bN (cC 4 (aX 2 aF (aC (aH 0) (aC (dCB iR (aC (aH 2) aN)) aN))))
 (bN (cC 5 (aX 2 aF (aC (aH 0) (aC (dCB iR (aC (aH 2) aN)) aN))))
 (bN (cC 6 (aX 2 aF (aC (aH 0) (aC (dC (.int 6)) aN))))
 (bN (cM1 (iK 2 (bS (dgN 7) (bS (dgN 8) gX))) (aV ixD (aH 2) (aH 4)))
 (bN (jO (dJ (aV (eqD false) (aH 6) (dC (.int 0)))) (gU (aV gD (dSl (aH 2) oZ (dP (aH 4))) (dSl (aH 2) (dP (aV gD (aH 4) (dC (.int 1)))) oZ))) eL)
 (bN (jO (dJ (aV (eqD false) (aH 6) (dC (.int 1)))) (bN (cC 9 (dCB lO (aC (aH 2) aN)))
 (bN (bU5 9 (aH 4) (aH 5) (aC8 (aC (aV ixD (aH 2) (aH 5)) (aC (aV ixD (aH 2) (aH 4)) aN))))
 (gU (aH 9)))) eL)
 (bN (jO (dJ (aV (eqD false) (aH 6) (dC (.int 2)))) (gU (aV gD (aV gD (dSl (aH 2) oZ (dP (aH 4))) (iI (aC (aV ixD (aH 2) (aH 5)) aN))) (dSl (aH 2) (dP (aH 4)) oZ))) eL)
 (bN (jO (dJ (aV (eqD false) (aH 6) (dC (.int 3)))) (cC 7 (aV ixD (aH 3) (aX 2 aF (aC (aH 0) (aC (aV cF7 (dCB iR (aC (aH 3) aN)) (dC (.int 1))) aN))))) (cC 8 (aV ixD (aH 3) (aX 2 aF (aC (aH 0) (aC (dCB iR (aC (aH 3) aN)) aN))))))
 (gU (aV gD (aV gD (dSl (aH 2) oZ (dP (aH 4))) (iI (aC (aC8 (aC (dFz (aH 7)) (aC (dFz (aH 8)) aN))) aN))) (dSl (aH 2) (dP (aV gD (aH 4) (dC (.int 1)))) oZ))))))))))))
noncomputable def cB:Dv.Run:=pQ 11 eO
noncomputable def fM:DS:=(gU (aJ0 (bA1 (cG4 "bool") (aH 0)) (aV (eqD false) (aH 0) (aH 1))))
noncomputable def dM:Dv.Run:=pQ 2 fM
noncomputable def fN:DS:=(bN (cC 2 (dCB lO (aC (aH 0) aN)))
 (bN (rT (dIt (aH 1)) (iK 2 (bS (dgN 3) (bS (dgN 4) gX)))
 (bN (jO (dJ (aV (inD true) (aH 3) (dE [5] (dIt (aH 2)) (dgN 5) lK (aV ixD (aH 5) (dC (.int 0)))))) (gU (dC (.bl false))) eL)
 (bN (jO (bQ4 (dJ (aV (eqD false) (dCB iR (aC (aH 2) aN)) (dC (.int 1)))) (dJ (aV (isD true) (aH 4) (dC .non)))) (gU (dC (.bl false))) eL)
 (bN (jO (bQ4 (dJ (aV gtI (dCB iR (aC (aH 2) aN)) (dC (.int 1)))) (dJ (aV (inD true) (aH 4) (aX 2 bI (aC (aH 2) (aC (aH 3) aN)))))) (gU (dC (.bl false))) eL)
 (cC 2 (dE [5] (dIt (aH 2)) (dgN 5) (dJ (aV (eqD true) (aV ixD (aH 5) (dC (.int 0))) (aH 3))) (dFz (aH 5))))))))
 (gU (aV (eqD false) (aH 2) (iI aN)))))
noncomputable def dN:Dv.Run:=pQ 6 fN
noncomputable def hZ:DS:=(gU (dCB bA5 (aC (dE [2] (dIt (aH 0)) (dgN 2) (dJ (aV (eqD true) (aV ixD (aH 2) (dC (.int 0))) (aH 1))) (dFz (aH 2))) aN)))
noncomputable def eA:Dv.Run:=pQ 3 hZ
noncomputable def eP:DS:=(bN (cC 1 (iI aN))
 (bN (rT (dIt (aH 0)) (iK 2 (bS (dgN 2) (bS (dgN 3) gX)))
 (iQ (qX "list" 1 bD6 (aC (dE [4] (dIt (aH 3)) (dgN 4) (dJ (aV (inD true) (aH 4) (aH 1))) (dFz (aH 4))) aN))))
 (gU (dCB bA5 (aC (aH 1) aN)))))
noncomputable def dU:Dv.Run:=pQ 5 eP
noncomputable def iA:DS:=(gU (dCB cG3 (aC (dE [2] (dIt (aH 1)) (dgN 2) lK (aV (inD false) (aH 2) (aH 0))) aN)))
noncomputable def gH:Dv.Run:=pQ 3 iA
noncomputable def eQ:DS:=(bN (cC 3 (aX 2 eA (aC (aH 0) (aC (aH 1) aN))))
 (bN (jO (dJ (aV (eqD false) (dCB iR (aC (aH 3) aN)) (dC (.int 0)))) (gU (iI (aC (dC .non) aN))) eL)
 (bN (cC 4 (dE [5] (dIt (aH 2)) (dgN 5) (dJ (aV (inD false) (aH 5) (aX 1 dU (aC (aH 3) aN)))) (dFz (aH 5))))
 (gU (dE [6,7] (dIt (aH 3)) (iK 2 (bS (dgN 6) (bS (dgN 7) gX))) (dJ (aX 2 gH (aC (aH 7) (aC (aH 4) aN)))) (dFz (aH 6)))))))
noncomputable def dW:Dv.Run:=pQ 8 eQ
noncomputable def iB:DS:=(bN (cC 1 (iI aN))
 (bN (rT (dIt (aH 0)) (iK 2 (bS (dgN 2) (bS (dgN 3) gX)))
 (iQ (qX "list" 1 bD6 (aC (dE [4] (dIt (aX 3 dW (aC (aH 0) (aC (aH 2) (aC (aH 3) aN))))) (dgN 4) lK (aC8 (aC (dFz (aH 2)) (aC (dFz (aH 4)) aN)))) aN))))
 (gU (aH 1))))
noncomputable def gJ:Dv.Run:=pQ 5 iB
noncomputable def fO:DS:=(bN (cC 2 (dFz (aH 0)))
 (bN (rT (dIt (aH 1)) (iK 2 (bS (dgN 3) (bS (dgN 4) gX)))
 (bN (jO (dJ (aV (inD true) (aC8 (aC (dFz (aH 3)) (aC (dFz (aH 4)) aN))) (aX 1 gJ (aC (aH 2) aN)))) (gU (dC (.bl false))) eL)
 (cC 2 (aX 2 eA (aC (aH 2) (aC (aH 3) aN))))))
 (gU (aV (eqD false) (dCB iR (aC (aH 2) aN)) (dC (.int 0))))))
noncomputable def dO:Dv.Run:=pQ 5 fO
noncomputable def qC:MS:=(bA6 (tO 1 1 cH (aC (aX 2 cN (aC (aH 0) (aC (dC (.int 0)) aN))) aN))
 (RS (bN (cC 2 (aX 2 dL (aC (aX 2 cN (aC (aH 0) (aC (dC (.int 1)) aN))) (aC (aH 1) aN))))
 (bN (cC 3 (iI (aC (dFz (aH 2)) (aC (dFz (iI aN)) aN))))
 (bN (rT (yL (aC (dC (.int 2)) (aC (dCB aK3 (aC (dC (.int 6)) (aC (dCB aA4 (aC (dC (.int 10)) (aC (dCB iR (aC (aH 0) aN)) aN))) aN))) aN))) (dgN 4)
 (bN (cC 5 (aX 2 cN (aC (aH 0) (aC (aH 4) aN))))
 (bN (cC 6 (aX 3 cB (aC (aH 5) (aC (aH 1) (aC (aH 2) aN)))))
 (bN (jO (bQ4 (dJ (aV (eqD false) (aX 2 aF (aC (aH 5) (aC (dC (.int 3)) aN))) (dC (.int 0)))) (dJ (aV (eqD true) (aH 6) (iI aN)))) (cC 6 (aX 3 cB (aC (aH 5) (aC (aH 1) (aC (aH 6) aN))))) eL)
 (iQ (jV "list" 3 aA5 (aC (dFz (aH 6)) aN)))))))
 (bN (rT (dIt (aV gD (aH 3) (dSl (aH 3) oZ (dP (dC (.int 1)))))) (dgN 6)
 (bN (cC 7 (dCB lO (aC (aH 6) aN)))
 (bN (jO (cE8 (dJ (aX 2 dM (aC (aX 2 dO (aC (aH 1) (aC (aH 7) aN))) (aC (aX 2 dN (aC (aH 1) (aC (aH 6) aN))) aN))))) (gU (dC (.bl false))) eL)
 (jO (dJ (aV (eqD true) (aH 7) (aH 6))) (gU (dC (.bl false))) eL))))
 (gU (dC (.bl true)))))))))
noncomputable def oJ:MC:=bX4 8 qC
theorem xC:yO qC:=(rK (rL (xA dX)) qB)
section
variable{P:Program}{w:World}{K:PySem.W.Frag}{mg:Str->Option Value}{base:Heap}{a:Adr}
theorem xD(T:Txt K mg a):FnOk P w K mg base CX0 1 a.law_take a.fd_law_take ["_law_box_here","_law_many"] (dsp 2 aF):=by
 refine dF T.F_law_take oC (by decide) gF (fun cdv A outer s H E hr=>?_)
 have nd:=oC.nd
 unfold gF
 exact(aG (gP (bP zP lN (eC (aA (pv 0)) ge_int (fun _ _=>rfl)) ge_int (bF _)) (aG (aL (i:=2) nd rfl (Or.inl rfl) (aU iU gQ (eC (aA (pv 0)) ge_int (fun _ _=>rfl)) (aA (pv 1))))
  (aG (bK7 (k:=0) (fun Γ=>xP (gE (aU yT aK5 (eC (aA (pv 0)) ge_int (fun _ _=>rfl)) (aA (pv 1))) Γ) (xO (pv 0) (gE ge_int Γ) mU)))
  (aP (cA (aA (pv 2)))))) cV)
  (aG (aL (i:=3) nd rfl (Or.inl rfl) (aU iU gQ (aU gR gS (eC (aA (pv 0)) ge_int (fun _ _=>rfl)) ge_int) ge_int))
  (aG (bK7 (k:=0) (fun Γ=>xP (gE (aU bC bD (aU iU gQ (aU bC bD (aU gR gS (aA (pv 3)) ge_int) ge_int) ge_int) ge_int) Γ) (xO (pv 0) (gE ge_int Γ) mU)))
  (aP (cA (aU iU gQ (aU yT aK5 (aU bC bD (aU gR gS (aA (pv 3)) ge_int) (eC (aA (pv 0)) ge_int (fun _ _=>rfl))) ge_int) (aA (pv 1))))))))
theorem oK(T:Txt K mg a)(G_law_take:FnOk P w K mg base CX0 1 a.law_take a.fd_law_take ["_law_box_here","_law_many"] (dsp 2 aF)):FnOk P w K mg base CX0 2 a.law_shuffled a.fd_law_shuffled ["_law_box_here","_law_things"] (dsp 2 aY):=by
 refine dF T.F_law_shuffled jB (by decide) dG (fun cdv A outer s H E hr=>?_)
 have nd:=jB.nd
 unfold dG
 exact(aG (aL (i:=2) nd rfl (Or.inl rfl) (cJ jJ (fun Γ=>cI fV (by rfl) T.n_list eN (gA (aB (aA (pv 1)) aE) Γ))))
  (aG (aL (i:=3) nd rfl (Or.inl rfl) (dA aE))
  (aG (yM (fun Γ=>xQ PassesOwn.never (gT (bP zP lN (cJ cE (fun Γ=>aZ bB (by rfl) T.n_len bJ (gA (aB (aA (pv 2)) aE) Γ))) ge_int (bF _)) Γ)
  (gSs (aP (iJ (jW lP (fun Γ=>gW K (by rfl) PySem.F.plainAttrs_list PySem.F.slot_list_append PySem.F.type_list_append fB (pv 3) (gA (aB (cM (jW aK4 (fun Γ=>gW K (by rfl) PySem.F.plainAttrs_list PySem.F.slot_list_pop PySem.F.type_list_pop bB4 (pv 2) (gA (aB (cM (aQ (fun Γ=>aJ G_law_take (hr.mono (by decide)) (by rfl) T.m_law_take T.F_law_take.kp (aM T) .nil bK (gA (aB (aA (pv 0)) (aB (cJ cE (fun Γ=>aZ bB (by rfl) T.n_len bJ (gA (aB (aA (pv 2)) aE) Γ))) aE)) Γ)))) aE) Γ)))) aE) Γ))))) Γ)))
  (aP (cA (aA (pv 3)))))))
theorem xE(T:Txt K mg a)(G_law_shuffled:FnOk P w K mg base CX0 2 a.law_shuffled a.fd_law_shuffled ["_law_box_here","_law_things"] (dsp 2 aY))(G_law_take:FnOk P w K mg base CX0 1 a.law_take a.fd_law_take ["_law_box_here","_law_many"] (dsp 2 aF)):FnOk P w K mg base CX0 3 a.law_some a.fd_law_some ["_law_box_here","_law_things"] (dsp 2 bQ):=by
 refine dF T.F_law_some oE (by decide) gG (fun cdv A outer s H E hr=>?_)
 have nd:=oE.nd
 unfold gG
 exact(aP (cA (cW (aQ (fun Γ=>aJ G_law_shuffled (hr.mono (by decide)) (by rfl) T.m_law_shuffled T.F_law_shuffled.kp (eZ T) .nil bK (gA (aB (aA (pv 0)) (aB (aA (pv 1)) aE)) Γ))) dY (dZ (aU bC bD ge_int (aQ (fun Γ=>aJ G_law_take (hr.mono (by decide)) (by rfl) T.m_law_take T.F_law_take.kp (aM T) .nil bK (gA (aB (aA (pv 0)) (aB (cJ yR (fun Γ=>aZ (nE (by rfl)) (by rfl) T.n_min rG (gA (aB ge_int (aB (cJ cE (fun Γ=>aZ bB (by rfl) T.n_len bJ (gA (aB (aA (pv 1)) aE) Γ))) aE)) Γ))) aE)) Γ))))))))
theorem lQ(T:Txt K mg a)(G_law_take:FnOk P w K mg base CX0 1 a.law_take a.fd_law_take ["_law_box_here","_law_many"] (dsp 2 aF))(G_law_some:FnOk P w K mg base CX0 3 a.law_some a.fd_law_some ["_law_box_here","_law_things"] (dsp 2 bQ)):FnOk P w K mg base CX0 4 a.law_plain_sets a.fd_law_plain_sets ["_law_box_here"] (dsp 1 bW):=by
 refine dF T.F_law_plain_sets hV (by decide) cP (fun cdv A outer s H E hr=>?_)
 have nd:=hV.nd
 unfold cP
 exact(aG (aL (i:=1) nd rfl (Or.inr rfl) (aU bC bD ge_int (aQ (fun Γ=>aJ G_law_take (hr.mono (by decide)) (by rfl) T.m_law_take T.F_law_take.kp (aM T) .nil bK (gA (aB (aA (pv 0)) (aB ge_int aE)) Γ)))))
  (aG (aL (i:=2) nd rfl (Or.inl rfl) (aU bC bD ge_int (aQ (fun Γ=>aJ G_law_take (hr.mono (by decide)) (by rfl) T.m_law_take T.F_law_take.kp (aM T) .nil bK (gA (aB (aA (pv 0)) (aB ge_int aE)) Γ)))))
  (aG (gP (bP (eB hr.units) (cK (neg:=false)) (aQ (fun Γ=>aJ G_law_take (hr.mono (by decide)) (by rfl) T.m_law_take T.F_law_take.kp (aM T) .nil bK (gA (aB (aA (pv 0)) (aB ge_int aE)) Γ))) ge_int (bF _)) (aP (cA (cY (ow:=[5]) (aW (by decide)) (fun Γ=>cT (csc [5] (by kernel_rfl)) (gI (nP (fun Γ=>fA (by rfl) T.n_range (gA (aB (aA (pv 2)) aE) Γ)) bA3) Γ) (fun _ _ _ _=>(aR (i:=5) nd rfl (Or.inl rfl) (.inr rfl))) (aS (by decide)) (fun _ _ _ _=>gL) (fun _ _ _ _=>gE (cM (aQ (fun Γ=>aJ G_law_some (hr.mono (by decide)) (by rfl) T.m_law_some T.F_law_some.kp (jL T) .nil bK (gA (aB (aA (pv 0)) (aB (cJ zA (fun Γ=>uT (T:="list") (U:="range") (qW rfl) (by rfl) T.n_list eN (by rfl) T.n_range boot_range (gA (aB (aA (pv 1)) aE) Γ))) aE)) Γ)))) Γ))))) cV)
  (aG (aL (i:=3) nd rfl (Or.inl rfl) (dA (aB (cM (aQ (fun Γ=>aJ G_law_some (hr.mono (by decide)) (by rfl) T.m_law_some T.F_law_some.kp (jL T) .nil bK (gA (aB (aA (pv 0)) (aB (cJ zA (fun Γ=>uT (T:="list") (U:="range") (qW rfl) (by rfl) T.n_list eN (by rfl) T.n_range boot_range (gA (aB (aA (pv 1)) aE) Γ))) aE)) Γ)))) aE)))
  (aG (aL (i:=4) nd rfl (Or.inr rfl) (cJ jJ (fun Γ=>cI fV (by rfl) T.n_list eN (gA (aB (eC (aA (pv 3)) ge_int (fun _ _=>rfl)) aE) Γ))))
  (aG (kU (own:=[5]) (aW (by decide)) (fun Γ=>jM PassesOwn.never rfl (gI (nP (fun Γ=>fA (by rfl) T.n_range (gA (aB (aU aE1 aJ9 (aA (pv 2)) ge_int) aE) Γ)) bA3) Γ) (aR (i:=5) nd rfl (Or.inl rfl))
  (gSs (aG (aL (i:=6) nd rfl (Or.inl rfl) (aQ (fun Γ=>aJ G_law_some (hr.mono (by decide)) (by rfl) T.m_law_some T.F_law_some.kp (jL T) .nil bK (gA (aB (aA (pv 0)) (aB (eC (aA (pv 3)) (aQ (fun Γ=>aJ G_law_take (hr.mono (by decide)) (by rfl) T.m_law_take T.F_law_take.kp (aM T) .nil bK (gA (aB (aA (pv 0)) (aB (cJ cE (fun Γ=>aZ bB (by rfl) T.n_len bJ (gA (aB (aA (pv 3)) aE) Γ))) aE)) Γ))) (fun _ _=>rfl)) aE)) Γ))))
  (aG (jI (ow:=[8]) (i:=7) (aW (by decide)) (fun Γ=>fU (i:=7) nd rfl rfl (csc [8] (by kernel_rfl)) (gI (nP (fun Γ=>fA (by rfl) T.n_range (gA (aB (aA (pv 1)) aE) Γ)) bA3) Γ) (fun _ _ _ _=>(aR (i:=8) nd rfl (Or.inl rfl) (.inr rfl))) (aS (by decide)) (fun _ _ _ _=>(dD (bP (hJ hr.units) (jQ (neg:=true)) (aA (pv 8)) (aA (pv 4)) (by with_unfolding_all rfl)))) (fun _ _ _ _=>gE (cM (aA (pv 8))) Γ) rfl))
  (aG (aL (i:=6) nd rfl (Or.inl rfl) (aU bC bD (cW (aA (pv 6)) dY (dZ (aQ (fun Γ=>aJ G_law_take (hr.mono (by decide)) (by rfl) T.m_law_take T.F_law_take.kp (aM T) .nil bK (gA (aB (aA (pv 0)) (aB (aU bC bD (cJ cE (fun Γ=>aZ bB (by rfl) T.n_len bJ (gA (aB (aA (pv 6)) aE) Γ))) ge_int) aE)) Γ))))) (cW (aA (pv 7)) dY (dZ (aQ (fun Γ=>aJ G_law_take (hr.mono (by decide)) (by rfl) T.m_law_take T.F_law_take.kp (aM T) .nil bK (gA (aB (aA (pv 0)) (aB ge_int aE)) Γ)))))))
  (aG (gP (bP (eB hr.units) (cK (neg:=false)) (aA (pv 6)) (dA aE) (bF _)) (aP (aL (i:=6) nd rfl (Or.inl rfl) (cW (aA (pv 4)) dY (dZ ge_int)))) cV)
  (aG (iJ (jW lP (fun Γ=>gW K (by rfl) PySem.F.plainAttrs_list PySem.F.slot_list_append PySem.F.type_list_append fB (pv 3) (gA (aB (cM (cW (aA (pv 6)) dY (dZ ge_int))) aE) Γ))))
  (aP (iJ (vA vK (fun Γ=>gW K (by rfl) PySem.F.plainAttrs_list PySem.F.slot_list_extend PySem.F.type_list_extend vJ (pv 4) (gA (aB (cY (ow:=[8]) (aW (by decide)) (fun Γ=>cT (csc [8] (by kernel_rfl)) (gI (dB K (by rfl) (eC (aA (pv 3)) (cP1 cA9 bR5 ge_int) (fun _ _=>rfl))) Γ) (fun _ _ _ _=>(aR (i:=8) nd rfl (Or.inl rfl) (.inr rfl))) (aS (by decide)) (fun _ _ _ _=>(dD (bP (hJ hr.units) (jQ (neg:=true)) (aA (pv 8)) (aA (pv 4)) (by with_unfolding_all rfl)))) (fun _ _ _ _=>gE (cM (aA (pv 8))) Γ))) aE) Γ)))))))))) Γ)))
  (aP (cA (aA (pv 3))))))))))
theorem tQ(T:Txt K mg a)(G_law_take:FnOk P w K mg base CX0 1 a.law_take a.fd_law_take ["_law_box_here","_law_many"] (dsp 2 aF)):FnOk P w K mg base CX0 2 a.law_names a.fd_law_names ["_law_box_here","_law_many"] (dsp 2 cL):=by
 refine dF T.F_law_names mJ (by decide) fK (fun cdv A outer s H E hr=>?_)
 have nd:=mJ.nd
 unfold fK
 exact(aG (aL (i:=2) nd rfl (Or.inr rfl) aI7)
  (aG (gP (bP (eB hr.units) (cK (neg:=false)) (aQ (fun Γ=>aJ G_law_take (hr.mono (by decide)) (by rfl) T.m_law_take T.F_law_take.kp (aM T) .nil bK (gA (aB (aA (pv 0)) (aB ge_int aE)) Γ))) ge_int (bF _)) (aG (cF4 (i:=3) (j:=4) (fun Γ=>cA4 (i:=3) (j:=4) rfl nd rfl rfl (by decide) rfl rfl (gA (aB (eC (aA (pv 2)) (aQ (fun Γ=>aJ G_law_take (hr.mono (by decide)) (by rfl) T.m_law_take T.F_law_take.kp (aM T) .nil bK (gA (aB (aA (pv 0)) (aB ge_int aE)) Γ))) (fun _ _=>rfl)) (aB (eC (aA (pv 2)) (aU bC bD ge_int (aQ (fun Γ=>aJ G_law_take (hr.mono (by decide)) (by rfl) T.m_law_take T.F_law_take.kp (aM T) .nil bK (gA (aB (aA (pv 0)) (aB ge_int aE)) Γ)))) (fun _ _=>rfl)) aE)) Γ) rfl))
  (aP (cA (cW (dA (aB (cM (aA (pv 3))) (aB (cM (aU bC bD (aA (pv 3)) (aA (pv 4)))) (aB (cM (aA (pv 4))) (aB (cM (aU bC bD (aA (pv 4)) (aA (pv 3)))) (aB (cM (aU bC bD (aA (pv 3)) (aA (pv 3)))) (aB (cM (aU bC bD (aU bC bD (aA (pv 3)) (aA (pv 4))) (aA (pv 3)))) (aB (cM (aU bC bD (aA (pv 4)) (aA (pv 4)))) (aB (cM (aU bC bD (aU bC bD (aA (pv 3)) (aA (pv 3))) (aA (pv 4)))) aE))))))))) dY (dZ (aA (pv 1))))))) cV)
  (aG (aL (i:=5) nd rfl (Or.inl rfl) (bT6 (sep:="") K (fun Γ=>gW K (by rfl) PySem.F.plainAttrs_str PySem.F.slot_str_join PySem.F.type_str_join (bE1 K (by rfl)) bH3 (gA (aB (cY (ow:=[10]) (aW (by decide)) (fun Γ=>cT (csc [10] (by kernel_rfl)) (gI (nP (fun Γ=>fA (by rfl) T.n_range (gA (aB (aQ (fun Γ=>aJ G_law_take (hr.mono (by decide)) (by rfl) T.m_law_take T.F_law_take.kp (aM T) .nil bK (gA (aB (aA (pv 0)) (aB ge_int aE)) Γ))) aE) Γ)) bA3) Γ) (fun _ _ _ _=>(aR (i:=10) nd rfl (Or.inl rfl) (.inr rfl))) (aS (by decide)) (fun _ _ _ _=>gL) (fun _ _ _ _=>gE (eC (aA (pv 2)) (aQ (fun Γ=>aJ G_law_take (hr.mono (by decide)) (by rfl) T.m_law_take T.F_law_take.kp (aM T) .nil bK (gA (aB (aA (pv 0)) (aB ge_int aE)) Γ))) (fun _ _=>rfl)) Γ))) aE) Γ))))
  (aG (aL (i:=6) nd rfl (Or.inl rfl) (aQ (fun Γ=>aJ G_law_take (hr.mono (by decide)) (by rfl) T.m_law_take T.F_law_take.kp (aM T) .nil bK (gA (aB (aA (pv 0)) (aB (aU bC bD (cJ cE (fun Γ=>aZ bB (by rfl) T.n_len bJ (gA (aB (aA (pv 5)) aE) Γ))) ge_int) aE)) Γ))))
  (aG (aL (i:=7) nd rfl (Or.inl rfl) (aQ (fun Γ=>aJ G_law_take (hr.mono (by decide)) (by rfl) T.m_law_take T.F_law_take.kp (aM T) .nil bK (gA (aB (aA (pv 0)) (aB ge_int aE)) Γ))))
  (aG (aL (i:=8) nd rfl (Or.inl rfl) (aQ (fun Γ=>aJ G_law_take (hr.mono (by decide)) (by rfl) T.m_law_take T.F_law_take.kp (aM T) .nil bK (gA (aB (aA (pv 0)) (aB ge_int aE)) Γ))))
  (aG (aL (i:=9) nd rfl (Or.inl rfl) (dA aE))
  (aG (kU (own:=[10]) (aW (by decide)) (fun Γ=>jM PassesOwn.never rfl (gI (nP (fun Γ=>fA (by rfl) T.n_range (gA (aB (aA (pv 1)) aE) Γ)) bA3) Γ) (aR (i:=10) nd rfl (Or.inl rfl))
  (gSs (aG (aL (i:=11) nd rfl (Or.inl rfl) (aU bC bD (aU bC bD (cW (aA (pv 5)) dY (dZ (aA (pv 6)))) (eC (aA (pv 2)) (aU iU gQ (aU bC bD (aA (pv 7)) (aU gR gS ge_int (aA (pv 10)))) ge_int) (fun _ _=>rfl))) (cW (aA (pv 5)) (dZ (aA (pv 6))) dY)))
  (aP (iJ (jW lP (fun Γ=>gW K (by rfl) PySem.F.plainAttrs_list PySem.F.slot_list_append PySem.F.type_list_append fB (pv 9) (gA (aB (cM (aU bC bD (aA (pv 11)) (aU gR gS aI7 (cJ vI (fun Γ=>cI nF (by rfl) T.n_int rF (gA (aB (bK5 (kQ (eB hr.units) (cK (neg:=false)) (aA (pv 8)) ge_int (bF _)) (bK4 (kQ (eB hr.units) (cK (neg:=false)) (aU iU gQ (aA (pv 10)) ge_int) ge_int (bF _)))) aE) Γ)))))) aE) Γ)))))) Γ)))
  (aP (cA (aA (pv 9))))))))))))
theorem oM(T:Txt K mg a)(G_law_take:FnOk P w K mg base CX0 1 a.law_take a.fd_law_take ["_law_box_here","_law_many"] (dsp 2 aF))(G_law_round_sets:FnOk P w K mg base CX0 4 a.law_round_sets a.fd_law_round_sets ["_law_box_here"] (aJ7 1 cRS))(G_law_plain_sets:FnOk P w K mg base CX0 4 a.law_plain_sets a.fd_law_plain_sets ["_law_box_here"] (dsp 1 bW))(G_law_shuffled:FnOk P w K mg base CX0 2 a.law_shuffled a.fd_law_shuffled ["_law_box_here","_law_things"] (dsp 2 aY))(G_law_names:FnOk P w K mg base CX0 2 a.law_names a.fd_law_names ["_law_box_here","_law_many"] (dsp 2 cL)):FnOk P w K mg base CX0 5 a.law_question a.fd_law_question ["_law_box_here"] (aJ7 1 cH):=by
 refine vD T.F_law_question jC (by decide) cQ dX (fun cdv A outer s H E hr=>GM.to ?_)
 have nd:=jC.nd
 unfold cQ
 exact(wZ (bU4 (aL (i:=1) nd rfl (Or.inl rfl) (aQ (fun Γ=>aJ G_law_take (hr.mono (by decide)) (by rfl) T.m_law_take T.F_law_take.kp (aM T) .nil bK (gA (aB (aA (pv 0)) (aB ge_int aE)) Γ)))))
  (wZ (cQ6 (bP (eB hr.units) (cK (neg:=false)) (aA (pv 1)) ge_int (bF _)) (cI6 (aX2 aX3 (fun Γ=>rW (i:=2) nd rfl (Or.inl rfl) (aJ G_law_round_sets (hr.mono (by decide)) (by rfl) T.m_law_round_sets T.F_law_round_sets.kp (mR T) .nil bK (gA (aB (aA (pv 0)) aE) Γ))))) (aX1 (aP (aL (i:=2) nd rfl (Or.inl rfl) (aQ (fun Γ=>aJ G_law_plain_sets (hr.mono (by decide)) (by rfl) T.m_law_plain_sets T.F_law_plain_sets.kp (mS T) .nil bK (gA (aB (aA (pv 0)) aE) Γ)))))))
  (aX1 (aG (aL (i:=3) nd rfl (Or.inr rfl) (aQ (fun Γ=>aJ G_law_shuffled (hr.mono (by decide)) (by rfl) T.m_law_shuffled T.F_law_shuffled.kp (eZ T) .nil bK (gA (aB (aA (pv 0)) (aB (aQ (fun Γ=>aJ G_law_names (hr.mono (by decide)) (by rfl) T.m_law_names T.F_law_names.kp (oF T) .nil bK (gA (aB (aA (pv 0)) (aB ge_int aE)) Γ))) aE)) Γ))))
  (aG (aL (i:=4) nd rfl (Or.inl rfl) (cM (aA (pv 3))))
  (aG (gP (bP zP lN (aQ (fun Γ=>aJ G_law_take (hr.mono (by decide)) (by rfl) T.m_law_take T.F_law_take.kp (aM T) .nil bK (gA (aB (aA (pv 0)) (aB ge_int aE)) Γ))) ge_int (bF _)) (aP (aL (i:=4) nd rfl (Or.inl rfl) (aQ (fun Γ=>aJ G_law_names (hr.mono (by decide)) (by rfl) T.m_law_names T.F_law_names.kp (oF T) .nil bK (gA (aB (aA (pv 0)) (aB ge_int aE)) Γ))))) cV)
  (aG (aL (i:=5) nd rfl (Or.inl rfl) (dA aE))
  (aG (kU (own:=[6,7]) (gY (bG (aW (by decide)) (bG (aW (by decide)) eY))) (fun Γ=>jM PassesOwn.never rfl (gI (bT9 K (fun Γ=>bT8 K (by rfl) (by rfl) T.n_enumerate pC (gA (aB (aQ (fun Γ=>aJ G_law_shuffled (hr.mono (by decide)) (by rfl) T.m_law_shuffled T.F_law_shuffled.kp (eZ T) .nil bK (gA (aB (aA (pv 0)) (aB (aA (pv 2)) aE)) Γ))) aE) Γ))) Γ) (cZ (n:=2) K rfl rfl (bE (aR (i:=6) nd rfl (Or.inl rfl)) (bE (aR (i:=7) nd rfl (Or.inl rfl)) eE)))
  (gSs (aP (iJ (jW lP (fun Γ=>gW K (by rfl) PySem.F.plainAttrs_list PySem.F.slot_list_append PySem.F.type_list_append fB (pv 5) (gA (aB (nM (aB (eC (aA (pv 4)) (aA (pv 6)) (fun _ _=>rfl)) (aB (cJ rB (fun Γ=>cI kM (by rfl) T.n_tuple jK (gA (aB (cY (ow:=[8]) (aW (by decide)) (fun Γ=>cT (csc [8] (by kernel_rfl)) (gI (dB K (by rfl) (aQ (fun Γ=>aJ G_law_shuffled (hr.mono (by decide)) (by rfl) T.m_law_shuffled T.F_law_shuffled.kp (eZ T) .nil bK (gA (aB (aA (pv 0)) (aB (aA (pv 7)) aE)) Γ)))) Γ) (fun _ _ _ _=>(aR (i:=8) nd rfl (Or.inl rfl) (.inr rfl))) (aS (by decide)) (fun _ _ _ _=>gL) (fun _ _ _ _=>gE (eC (aA (pv 3)) (aA (pv 8)) (fun _ _=>rfl)) Γ))) aE) Γ))) aE))) aE) Γ))))) Γ)))
  (aP (cA (cJ rB (fun Γ=>cI kM (by rfl) T.n_tuple jK (gA (aB (aA (pv 5)) aE) Γ)))))))))))))
theorem aB8(T:Txt K mg a):FnOk P w K mg base CX0 1 a.law_box a.fd_law_box ["_law_script","_law_k"] (dsp 2 cN):=by
 refine dF T.F_law_box pV (by decide) hX (fun cdv A outer s H E hr=>?_)
 have nd:=pV.nd
 unfold hX
 exact(aG (aL (i:=2) nd rfl (Or.inl rfl) (aU bC bD (aU gR gS ge_int (aA (pv 1))) ge_int))
  (aG (gP (bP bB0 bR3 (aA (pv 1)) (cJ cE (fun Γ=>aZ bB (by rfl) T.n_len bJ (gA (aB (aA (pv 0)) aE) Γ))) (bF _)) (aP (aL (i:=2) nd rfl (Or.inl rfl) (eC (aA (pv 0)) (aA (pv 1)) (fun _ _=>rfl)))) (aP (gP (bP zP lN (cJ cE (fun Γ=>aZ bB (by rfl) T.n_len bJ (gA (aB (aA (pv 0)) aE) Γ))) ge_int (bF _)) (aP (aL (i:=2) nd rfl (Or.inl rfl) (aU bC bD (aA (pv 2)) (aU gR gS (aU iU gQ (eC (aA (pv 0)) (aU iU gQ (aA (pv 1)) (cJ cE (fun Γ=>aZ bB (by rfl) T.n_len bJ (gA (aB (aA (pv 0)) aE) Γ)))) (fun _ _=>rfl)) ge_int) ge_int)))) cV)))
  (aG (aL (i:=3) nd rfl (Or.inl rfl) (aU bC bD (aU iU gQ (aU bC bD (aU gR gS (aU iU gQ (aA (pv 2)) ge_int) ge_int) (aU gR gS ge_int (aA (pv 1)))) ge_int) ge_int))
  (aP (cA (dA (aB (cM (aU gR gS (aA (pv 2)) (cJ vI (fun Γ=>cI nF (by rfl) T.n_int rF (gA (aB (kQ cN8 bR4 (aA (pv 2)) (aU cA8 bR2 ge_int ge_int) (bF _)) aE) Γ))))) (aB (cM (aA (pv 3))) aE))))))))
theorem pE(T:Txt K mg a):FnOk P w K mg base CX0 1 a.law_holders a.fd_law_holders ["_law_left","_law_kt"] (dsp 2 bI):=by
 refine dF T.F_law_holders jU (by decide) dS (fun cdv A outer s H E hr=>?_)
 have nd:=jU.nd
 unfold dS
 exact(aG (aL (i:=2) nd rfl (Or.inl rfl) (cI2 (cO5 hr) (cJ bE9 (fun Γ=>cI (aB6 rfl) (by rfl) T.n_dict aW3 (gA (aB (aA (pv 0)) aE) Γ))) (aA (pv 1)) (fun _ _=>rfl)))
  (aG (aL (i:=3) nd rfl (Or.inr rfl) (cY (ow:=[5,6]) (gY (bG (aW (by decide)) (bG (aW (by decide)) eY))) (fun Γ=>cT (csc [5,6] (by kernel_rfl)) (gI (dB K (by rfl) (aA (pv 0))) Γ) (fun _ _ _ _=>(cZ (n:=2) K rfl rfl (bE (aR (i:=5) nd rfl (Or.inl rfl) (.inr rfl)) (bE (aR (i:=6) nd rfl (Or.inl rfl) (.inr rfl)) eE)))) (fZ (bT (aS (by decide)) (bT (aS (by decide)) fY bU) bU)) (fun _ _ _ _=>(dD (bP (kX hr.units) (cK (neg:=true)) (aA (pv 5)) (aA (pv 1)) (bF _)))) (fun _ _ _ _=>gE (nM (aB (cM (aA (pv 5))) (aB (cM (aA (pv 6))) aE))) Γ))))
  (aG (aL (i:=4) nd rfl (Or.inr rfl) (cY (ow:=[7]) (aW (by decide)) (fun Γ=>cT (csc [7] (by kernel_rfl)) (gI (dB K (by rfl) (aA (pv 2))) Γ) (fun _ _ _ _=>(aR (i:=7) nd rfl (Or.inr rfl) (.inl rfl))) (aS (by decide)) (fun _ _ _ _=>(dD (bP (kX hr.units) (cK (neg:=true)) (cY (ow:=[5,6]) (gY (bG (aW (by decide)) (bG (aW (by decide)) eY))) (fun Γ=>cT (csc [5,6] (by kernel_rfl)) (gI (dB K (by rfl) (aA (pv 3))) Γ) (fun _ _ _ _=>(cZ (n:=2) K rfl rfl (bE (aR (i:=5) nd rfl (Or.inl rfl) (.inr rfl)) (bE (aR (i:=6) nd rfl (Or.inl rfl) (.inr rfl)) eE)))) (fZ (bT (aS (by decide)) (bT (aS (by decide)) fY bU) bU)) (fun _ _ _ _=>(dD (bP (yV hr.units) (jQ (neg:=false)) (aA (pv 7)) (aA (pv 6)) (by with_unfolding_all rfl)))) (fun _ _ _ _=>gE ge_int Γ))) (dA aE) (bF _)))) (fun _ _ _ _=>gE (cM (aA (pv 7))) Γ))))
  (aP (cA (cY (ow:=[5,6]) (gY (bG (aW (by decide)) (bG (aW (by decide)) eY))) (fun Γ=>cT (csc [5,6] (by kernel_rfl)) (gI (dB K (by rfl) (aA (pv 3))) Γ) (fun _ _ _ _=>(cZ (n:=2) K rfl rfl (bE (aR (i:=5) nd rfl (Or.inl rfl) (.inr rfl)) (bE (aR (i:=6) nd rfl (Or.inr rfl) (.inl rfl)) eE)))) (fZ (bT (aS (by decide)) (bT (aS (by decide)) fY bU) bU)) (fun _ _ _ _=>(dD (aI8 (cJ aK2 (fun Γ=>aZ (sW K (by rfl) (by rfl)) (by rfl) T.n_all yZ (gA (aB (cY (ow:=[7]) (aW (by decide)) (fun Γ=>cT (csc [7] (by kernel_rfl)) (gI (dB K (by rfl) (aA (pv 4))) Γ) (fun _ _ _ _=>(aR (i:=7) nd rfl (Or.inl rfl) (.inr rfl))) (aS (by decide)) (fun _ _ _ _=>gL) (fun _ _ _ _=>gE (kQ (yV hr.units) (jQ (neg:=false)) (aA (pv 7)) (aA (pv 6)) (by with_unfolding_all rfl)) Γ))) aE) Γ)))))) (fun _ _ _ _=>gE (cM (aA (pv 5))) Γ))))))))
theorem tR(T:Txt K mg a)(G_law_holders:FnOk P w K mg base CX0 1 a.law_holders a.fd_law_holders ["_law_left","_law_kt"] (dsp 2 bI))(G_law_take:FnOk P w K mg base CX0 1 a.law_take a.fd_law_take ["_law_box_here","_law_many"] (dsp 2 aF)):FnOk P w K mg base CX0 2 a.law_begun a.fd_law_begun ["_law_box_here","_law_question_here"] (dsp 2 dL):=by
 refine dF T.F_law_begun mK (by decide) fL (fun cdv A outer s H E hr=>?_)
 have nd:=mK.nd
 unfold fL
 exact(aG (aL (i:=2) nd rfl (Or.inr rfl) (cJ jJ (fun Γ=>cI fV (by rfl) T.n_list eN (gA (aB (aA (pv 1)) aE) Γ))))
  (aG (aL (i:=3) nd rfl (Or.inl rfl) (dA aE))
  (aG (yM (fun Γ=>xQ PassesOwn.never (gT (bP zP lN (cJ cE (fun Γ=>aZ bB (by rfl) T.n_len bJ (gA (aB (aA (pv 2)) aE) Γ))) ge_int (bF _)) Γ)
  (gSs (aG (jI (ow:=[5,7]) (i:=4) (gY (bG (aW (by decide)) (bG (aW (by decide)) eY))) (fun Γ=>fU (i:=4) nd rfl rfl (csc [5,7] (by kernel_rfl)) (gI (dB K (by rfl) (aA (pv 2))) Γ) (fun _ _ _ _=>(cZ (n:=2) K rfl rfl (bE (aR (i:=5) nd rfl (Or.inl rfl) (.inr rfl)) (bE (aR (i:=7) nd rfl (Or.inl rfl) (.inr rfl)) eE)))) (fZ (bT (aS (by decide)) (bT (aS (by decide)) fY bU) bU)) (fun _ _ _ _=>(dD (GW.gt (cP2 (bP (eB hr.units) (cK (neg:=false)) (cJ cE (fun Γ=>aZ bB (by rfl) T.n_len bJ (gA (aB (aA (pv 2)) aE) Γ))) ge_int (bF _)) (cE9 (bP (kX hr.units) (cK (neg:=true)) (aQ (fun Γ=>aJ G_law_holders (hr.mono (by decide)) (by rfl) T.m_law_holders T.F_law_holders.kp (iM T) .nil bK (gA (aB (aA (pv 2)) (aB (aA (pv 5)) aE)) Γ))) (dA aE) (bF _))))))) (fun _ _ _ _=>gE (cM (aA (pv 5))) Γ) rfl))
  (aG (gP (bP (eB hr.units) (cK (neg:=false)) (aA (pv 4)) (dA aE) (bF _)) (aP (aL (i:=4) nd rfl (Or.inl rfl) (dA (aB (eC (eC (aA (pv 2)) ge_int (fun _ _=>rfl)) ge_int (fun _ _=>rfl)) aE)))) cV)
  (aG (aL (i:=5) nd rfl (Or.inr rfl) (eC (aA (pv 4)) (aQ (fun Γ=>aJ G_law_take (hr.mono (by decide)) (by rfl) T.m_law_take T.F_law_take.kp (aM T) .nil bK (gA (aB (aA (pv 0)) (aB (cJ cE (fun Γ=>aZ bB (by rfl) T.n_len bJ (gA (aB (aA (pv 4)) aE) Γ))) aE)) Γ))) (fun _ _=>rfl)))
  (aG (aL (i:=6) nd rfl (Or.inl rfl) (aU bC bD (aQ (fun Γ=>aJ G_law_holders (hr.mono (by decide)) (by rfl) T.m_law_holders T.F_law_holders.kp (iM T) .nil bK (gA (aB (aA (pv 2)) (aB (aA (pv 5)) aE)) Γ))) (aU bU3 bF0 (dA (aB yG aE)) (cJ vI (fun Γ=>cI nF (by rfl) T.n_int rF (gA (aB (kQ (eB hr.units) (cK (neg:=false)) (cJ cE (fun Γ=>aZ bB (by rfl) T.n_len bJ (gA (aB (aA (pv 2)) aE) Γ))) ge_int (bF _)) aE) Γ))))))
  (aG (gP (bP (eB hr.units) (cK (neg:=false)) (aA (pv 6)) (dA aE) (bF _)) (aP (jI (ow:=[9,7]) (i:=6) (gY (bG (aW (by decide)) (bG (aW (by decide)) eY))) (fun Γ=>fU (i:=6) nd rfl rfl (csc [9,7] (by kernel_rfl)) (gI (dB K (by rfl) (aA (pv 2))) Γ) (fun _ _ _ _=>(cZ (n:=2) K rfl rfl (bE (aR (i:=9) nd rfl (Or.inl rfl) (.inr rfl)) (bE (aR (i:=7) nd rfl (Or.inl rfl) (.inr rfl)) eE)))) (fZ (bT (aS (by decide)) (bT (aS (by decide)) fY bU) bU)) (fun _ _ _ _=>(dD (bP (kX hr.units) (cK (neg:=true)) (aA (pv 9)) (aA (pv 5)) (bF _)))) (fun _ _ _ _=>gE (cM (aA (pv 9))) Γ) rfl))) cV)
  (aG (iJ (jW lP (fun Γ=>gW K (by rfl) PySem.F.plainAttrs_list PySem.F.slot_list_append PySem.F.type_list_append fB (pv 3) (gA (aB (nM (aB (cM (aA (pv 5))) (aB (eC (aA (pv 6)) (aQ (fun Γ=>aJ G_law_take (hr.mono (by decide)) (by rfl) T.m_law_take T.F_law_take.kp (aM T) .nil bK (gA (aB (aA (pv 0)) (aB (cJ cE (fun Γ=>aZ bB (by rfl) T.n_len bJ (gA (aB (aA (pv 6)) aE) Γ))) aE)) Γ))) (fun _ _=>rfl)) aE))) aE) Γ))))
  (aP (aL (i:=2) nd rfl (Or.inr rfl) (cY (ow:=[8]) (aW (by decide)) (fun Γ=>cT (csc [8] (by kernel_rfl)) (gI (dB K (by rfl) (aA (pv 2))) Γ) (fun _ _ _ _=>(aR (i:=8) nd rfl (Or.inl rfl) (.inr rfl))) (aS (by decide)) (fun _ _ _ _=>(dD (bP (kX hr.units) (cK (neg:=true)) (eC (aA (pv 8)) ge_int (fun _ _=>rfl)) (aA (pv 5)) (bF _)))) (fun _ _ _ _=>gE (cM (aA (pv 8))) Γ))))))))))) Γ)))
  (aP (cA (aA (pv 3)))))))
theorem rM(T:Txt K mg a)(G_law_take:FnOk P w K mg base CX0 1 a.law_take a.fd_law_take ["_law_box_here","_law_many"] (dsp 2 aF)):FnOk P w K mg base CX0 2 a.law_spoilt a.fd_law_spoilt ["_law_box_here","_law_question_here","_law_some_here"] (dsp 3 cB):=by
 refine dF T.F_law_spoilt kZ (by decide) eO (fun cdv A outer s H E hr=>?_)
 have nd:=kZ.nd
 unfold eO
 exact(aG (aL (i:=3) nd rfl (Or.inl rfl) (aU bC bD (cY (ow:=[7,10]) (gY (bG (aW (by decide)) (bG (aW (by decide)) eY))) (fun Γ=>cT (csc [7,10] (by kernel_rfl)) (gI (dB K (by rfl) (aA (pv 1))) Γ) (fun _ _ _ _=>(cZ (n:=2) K rfl rfl (bE (aR (i:=7) nd rfl (Or.inl rfl) (.inr rfl)) (bE (aR (i:=10) nd rfl (Or.inl rfl) (.inr rfl)) eE)))) (fZ (bT (aS (by decide)) (bT (aS (by decide)) fY bU) bU)) (fun _ _ _ _=>gL) (fun _ _ _ _=>gE (cM (aA (pv 7))) Γ))) (dA (aB aI7 (aB yG aE)))))
  (aG (aL (i:=4) nd rfl (Or.inl rfl) (aQ (fun Γ=>aJ G_law_take (hr.mono (by decide)) (by rfl) T.m_law_take T.F_law_take.kp (aM T) .nil bK (gA (aB (aA (pv 0)) (aB (cJ cE (fun Γ=>aZ bB (by rfl) T.n_len bJ (gA (aB (aA (pv 2)) aE) Γ))) aE)) Γ))))
  (aG (aL (i:=5) nd rfl (Or.inl rfl) (aQ (fun Γ=>aJ G_law_take (hr.mono (by decide)) (by rfl) T.m_law_take T.F_law_take.kp (aM T) .nil bK (gA (aB (aA (pv 0)) (aB (cJ cE (fun Γ=>aZ bB (by rfl) T.n_len bJ (gA (aB (aA (pv 2)) aE) Γ))) aE)) Γ))))
  (aG (aL (i:=6) nd rfl (Or.inl rfl) (aQ (fun Γ=>aJ G_law_take (hr.mono (by decide)) (by rfl) T.m_law_take T.F_law_take.kp (aM T) .nil bK (gA (aB (aA (pv 0)) (aB ge_int aE)) Γ))))
  (aG (cF3 (own:=[7,8]) (gY (bG (aW (by decide)) (bG (aW (by decide)) eY))) (fun Γ=>xP (gE (eC (aA (pv 2)) (aA (pv 4)) (fun _ _=>rfl)) Γ) (cZ (n:=2) K rfl rfl (bE (aR (i:=7) nd rfl (Or.inl rfl)) (bE (aR (i:=8) nd rfl (Or.inl rfl)) eE)))))
  (aG (gP (bP (eB hr.units) (cK (neg:=false)) (aA (pv 6)) ge_int (bF _)) (aP (cA (aU bC bD (cW (aA (pv 2)) dY (dZ (aA (pv 4)))) (cW (aA (pv 2)) (dZ (aU bC bD (aA (pv 4)) ge_int)) dY)))) cV)
  (aG (gP (bP (eB hr.units) (cK (neg:=false)) (aA (pv 6)) ge_int (bF _)) (aG (aL (i:=9) nd rfl (Or.inl rfl) (cJ jJ (fun Γ=>cI fV (by rfl) T.n_list eN (gA (aB (aA (pv 2)) aE) Γ))))
  (aG (bU6 (k:=9) (fun Γ=>xP (gE (nM (aB (eC (aA (pv 2)) (aA (pv 5)) (fun _ _=>rfl)) (aB (eC (aA (pv 2)) (aA (pv 4)) (fun _ _=>rfl)) aE))) Γ) (cZ (n:=2) K rfl rfl (bE (xO (pv 9) (gE (aA (pv 4)) Γ) mU) (bE (xO (pv 9) (gE (aA (pv 5)) Γ) mU) eE)))))
  (aP (cA (aA (pv 9)))))) cV)
  (aG (gP (bP (eB hr.units) (cK (neg:=false)) (aA (pv 6)) ge_int (bF _)) (aP (cA (aU bC bD (aU bC bD (cW (aA (pv 2)) dY (dZ (aA (pv 4)))) (dA (aB (eC (aA (pv 2)) (aA (pv 5)) (fun _ _=>rfl)) aE))) (cW (aA (pv 2)) (dZ (aA (pv 4))) dY)))) cV)
  (aG (gP (bP (eB hr.units) (cK (neg:=false)) (aA (pv 6)) ge_int (bF _)) (aP (aL (i:=7) nd rfl (Or.inl rfl) (eC (aA (pv 3)) (aQ (fun Γ=>aJ G_law_take (hr.mono (by decide)) (by rfl) T.m_law_take T.F_law_take.kp (aM T) .nil bK (gA (aB (aA (pv 0)) (aB (aU aE1 aJ9 (cJ cE (fun Γ=>aZ bB (by rfl) T.n_len bJ (gA (aB (aA (pv 3)) aE) Γ))) ge_int) aE)) Γ))) (fun _ _=>rfl)))) (aP (aL (i:=8) nd rfl (Or.inl rfl) (eC (aA (pv 3)) (aQ (fun Γ=>aJ G_law_take (hr.mono (by decide)) (by rfl) T.m_law_take T.F_law_take.kp (aM T) .nil bK (gA (aB (aA (pv 0)) (aB (cJ cE (fun Γ=>aZ bB (by rfl) T.n_len bJ (gA (aB (aA (pv 3)) aE) Γ))) aE)) Γ))) (fun _ _=>rfl)))))
  (aP (cA (aU bC bD (aU bC bD (cW (aA (pv 2)) dY (dZ (aA (pv 4)))) (dA (aB (nM (aB (cM (aA (pv 7))) (aB (cM (aA (pv 8))) aE))) aE))) (cW (aA (pv 2)) (dZ (aU bC bD (aA (pv 4)) ge_int)) dY)))))))))))))
theorem tS(T:Txt K mg a):FnOk P w K mg base CX0 1 a.law_truth a.fd_law_truth ["_law_found","_law_due"] (dsp 2 dM):=by
 refine dF T.F_law_truth mL (by decide) fM (fun cdv A outer s H E hr=>?_)
 have nd:=mL.nd
 unfold fM
 exact(aP (cA (bK5 (cG8 (c:="bool") K (by decide) (fun Γ=>aZ (aK6 K (by rfl)) (by rfl) T.n_isinstance oB (bO (gE (aA (pv 0)) Γ) (bO (bM6 (v:=.ty "bool") (by rfl) T.n_bool aW2 rfl) eI)))) (bK4 (kQ (eB hr.units) (cK (neg:=false)) (aA (pv 0)) (aA (pv 1)) (bF _))))))
theorem tT(T:Txt K mg a)(G_law_holders:FnOk P w K mg base CX0 1 a.law_holders a.fd_law_holders ["_law_left","_law_kt"] (dsp 2 bI)):FnOk P w K mg base CX0 2 a.law_shows a.fd_law_shows ["_law_question_here","_law_some_here"] (dsp 2 dN):=by
 refine dF T.F_law_shows mM (by decide) fN (fun cdv A outer s H E hr=>?_)
 have nd:=mM.nd
 unfold fN
 exact(aG (aL (i:=2) nd rfl (Or.inl rfl) (cJ jJ (fun Γ=>cI fV (by rfl) T.n_list eN (gA (aB (aA (pv 0)) aE) Γ))))
  (aG (kU (own:=[3,4]) (gY (bG (aW (by decide)) (bG (aW (by decide)) eY))) (fun Γ=>jM PassesOwn.never rfl (gI (dB K (by rfl) (aA (pv 1))) Γ) (cZ (n:=2) K rfl rfl (bE (aR (i:=3) nd rfl (Or.inr rfl)) (bE (aR (i:=4) nd rfl (Or.inl rfl)) eE)))
  (gSs (aG (gP (bP (hJ hr.units) (jQ (neg:=true)) (aA (pv 3)) (cY (ow:=[5]) (aW (by decide)) (fun Γ=>cT (csc [5] (by kernel_rfl)) (gI (dB K (by rfl) (aA (pv 2))) Γ) (fun _ _ _ _=>(aR (i:=5) nd rfl (Or.inl rfl) (.inr rfl))) (aS (by decide)) (fun _ _ _ _=>gL) (fun _ _ _ _=>gE (eC (aA (pv 5)) ge_int (fun _ _=>rfl)) Γ))) (by with_unfolding_all rfl)) (aP (cA uX)) cV)
  (aG (gP (GW.gt (aI9 (bP (eB hr.units) (cK (neg:=false)) (cJ cE (fun Γ=>aZ bB (by rfl) T.n_len bJ (gA (aB (aA (pv 2)) aE) Γ))) ge_int (bF _)) (uZ (bP bP6 (cG7 (neg:=true)) (aA (pv 4)) yG (bF _))))) (aP (cA uX)) cV)
  (aG (gP (GW.gt (aI9 (bP zP lN (cJ cE (fun Γ=>aZ bB (by rfl) T.n_len bJ (gA (aB (aA (pv 2)) aE) Γ))) ge_int (bF _)) (uZ (bP (hJ hr.units) (jQ (neg:=true)) (aA (pv 4)) (aQ (fun Γ=>aJ G_law_holders (hr.mono (by decide)) (by rfl) T.m_law_holders T.F_law_holders.kp (iM T) .nil bK (gA (aB (aA (pv 2)) (aB (aA (pv 3)) aE)) Γ))) (by with_unfolding_all rfl))))) (aP (cA uX)) cV)
  (aP (jI (ow:=[5]) (i:=2) (aW (by decide)) (fun Γ=>fU (i:=2) nd rfl rfl (csc [5] (by kernel_rfl)) (gI (dB K (by rfl) (aA (pv 2))) Γ) (fun _ _ _ _=>(aR (i:=5) nd rfl (Or.inl rfl) (.inr rfl))) (aS (by decide)) (fun _ _ _ _=>(dD (bP (kX hr.units) (cK (neg:=true)) (eC (aA (pv 5)) ge_int (fun _ _=>rfl)) (aA (pv 3)) (bF _)))) (fun _ _ _ _=>gE (cM (aA (pv 5))) Γ) rfl)))))) Γ)))
  (aP (cA (kQ (eB hr.units) (cK (neg:=false)) (aA (pv 2)) (dA aE) (bF _))))))
theorem aB9(T:Txt K mg a):FnOk P w K mg base CX0 1 a.without a.fd_without ["question","name"] (dsp 2 eA):=by
 refine dF T.F_without pW (by decide) hZ (fun cdv A outer s H E hr=>?_)
 have nd:=pW.nd
 unfold hZ
 exact(aP (cA (cJ rB (fun Γ=>cI kM (by rfl) T.n_tuple jK (gA (aB (cY (ow:=[2]) (aW (by decide)) (fun Γ=>cT (csc [2] (by kernel_rfl)) (gI (dB K (by rfl) (aA (pv 0))) Γ) (fun _ _ _ _=>(aR (i:=2) nd rfl (Or.inl rfl) (.inr rfl))) (aS (by decide)) (fun _ _ _ _=>(dD (bP (kX hr.units) (cK (neg:=true)) (eC (aA (pv 2)) ge_int (fun _ _=>rfl)) (aA (pv 1)) (bF _)))) (fun _ _ _ _=>gE (cM (aA (pv 2))) Γ))) aE) Γ)))))
theorem rN(T:Txt K mg a):FnOk P w K mg base CX0 1 a.columns_of a.fd_columns_of ["question"] (dsp 1 dU):=by
 refine dF T.F_columns_of lA (by decide) eP (fun cdv A outer s H E hr=>?_)
 have nd:=lA.nd
 unfold eP
 exact(aG (aL (i:=1) nd rfl (Or.inr rfl) (dA aE))
  (aG (kU (own:=[2,3]) (gY (bG (aW (by decide)) (bG (aW (by decide)) eY))) (fun Γ=>jM PassesOwn.never rfl (gI (dB K (by rfl) (aA (pv 0))) Γ) (cZ (n:=2) K rfl rfl (bE (aR (i:=2) nd rfl (Or.inl rfl)) (bE (aR (i:=3) nd rfl (Or.inl rfl)) eE)))
  (gSs (aP (iJ (vA vK (fun Γ=>gW K (by rfl) PySem.F.plainAttrs_list PySem.F.slot_list_extend PySem.F.type_list_extend vJ (pv 1) (gA (aB (cY (ow:=[4]) (aW (by decide)) (fun Γ=>cT (csc [4] (by kernel_rfl)) (gI (dB K (by rfl) (aA (pv 3))) Γ) (fun _ _ _ _=>(aR (i:=4) nd rfl (Or.inl rfl) (.inr rfl))) (aS (by decide)) (fun _ _ _ _=>(dD (bP (hJ hr.units) (jQ (neg:=true)) (aA (pv 4)) (aA (pv 1)) (by with_unfolding_all rfl)))) (fun _ _ _ _=>gE (cM (aA (pv 4))) Γ))) aE) Γ))))) Γ)))
  (aP (cA (cJ rB (fun Γ=>cI kM (by rfl) T.n_tuple jK (gA (aB (aA (pv 1)) aE) Γ)))))))
theorem aC0(T:Txt K mg a):FnOk P w K mg base CX0 1 a.has_all a.fd_has_all ["columns","some"] (dsp 2 gH):=by
 refine dF T.F_has_all pX (by decide) iA (fun cdv A outer s H E hr=>?_)
 have nd:=pX.nd
 unfold iA
 exact(aP (cA (cJ aK2 (fun Γ=>aZ (sW K (by rfl) (by rfl)) (by rfl) T.n_all yZ (gA (aB (cY (ow:=[2]) (aW (by decide)) (fun Γ=>cT (csc [2] (by kernel_rfl)) (gI (dB K (by rfl) (aA (pv 1))) Γ) (fun _ _ _ _=>(aR (i:=2) nd rfl (Or.inl rfl) (.inr rfl))) (aS (by decide)) (fun _ _ _ _=>gL) (fun _ _ _ _=>gE (kQ (yV hr.units) (jQ (neg:=false)) (aA (pv 2)) (aA (pv 0)) (by with_unfolding_all rfl)) Γ))) aE) Γ)))))
theorem rO(T:Txt K mg a)(G_without:FnOk P w K mg base CX0 1 a.without a.fd_without ["question","name"] (dsp 2 eA))(G_columns_of:FnOk P w K mg base CX0 1 a.columns_of a.fd_columns_of ["question"] (dsp 1 dU))(G_has_all:FnOk P w K mg base CX0 1 a.has_all a.fd_has_all ["columns","some"] (dsp 2 gH)):FnOk P w K mg base CX0 2 a.holders_of a.fd_holders_of ["left","name","columns"] (dsp 3 dW):=by
 refine dF T.F_holders_of lB (by decide) eQ (fun cdv A outer s H E hr=>?_)
 have nd:=lB.nd
 unfold eQ
 exact(aG (aL (i:=3) nd rfl (Or.inr rfl) (aQ (fun Γ=>aJ G_without (hr.mono (by decide)) (by rfl) T.m_without T.F_without.kp (tI T) .nil bK (gA (aB (aA (pv 0)) (aB (aA (pv 1)) aE)) Γ))))
  (aG (gP (bP (eB hr.units) (cK (neg:=false)) (cJ cE (fun Γ=>aZ bB (by rfl) T.n_len bJ (gA (aB (aA (pv 3)) aE) Γ))) ge_int (bF _)) (aP (cA (dA (aB yG aE)))) cV)
  (aG (aL (i:=4) nd rfl (Or.inr rfl) (cY (ow:=[5]) (aW (by decide)) (fun Γ=>cT (csc [5] (by kernel_rfl)) (gI (dB K (by rfl) (aA (pv 2))) Γ) (fun _ _ _ _=>(aR (i:=5) nd rfl (Or.inl rfl) (.inr rfl))) (aS (by decide)) (fun _ _ _ _=>(dD (bP (yV hr.units) (jQ (neg:=false)) (aA (pv 5)) (aQ (fun Γ=>aJ G_columns_of (hr.mono (by decide)) (by rfl) T.m_columns_of T.F_columns_of.kp (tJ T) .nil bK (gA (aB (aA (pv 3)) aE) Γ))) (by with_unfolding_all rfl)))) (fun _ _ _ _=>gE (cM (aA (pv 5))) Γ))))
  (aP (cA (cY (ow:=[6,7]) (gY (bG (aW (by decide)) (bG (aW (by decide)) eY))) (fun Γ=>cT (csc [6,7] (by kernel_rfl)) (gI (dB K (by rfl) (aA (pv 3))) Γ) (fun _ _ _ _=>(cZ (n:=2) K rfl rfl (bE (aR (i:=6) nd rfl (Or.inl rfl) (.inr rfl)) (bE (aR (i:=7) nd rfl (Or.inl rfl) (.inr rfl)) eE)))) (fZ (bT (aS (by decide)) (bT (aS (by decide)) fY bU) bU)) (fun _ _ _ _=>(dD (aI8 (aQ (fun Γ=>aJ G_has_all (hr.mono (by decide)) (by rfl) T.m_has_all T.F_has_all.kp (aW4 T) .nil bK (gA (aB (aA (pv 7)) (aB (aA (pv 4)) aE)) Γ)))))) (fun _ _ _ _=>gE (cM (aA (pv 6))) Γ))))))))
theorem aC1(T:Txt K mg a)(G_holders_of:FnOk P w K mg base CX0 2 a.holders_of a.fd_holders_of ["left","name","columns"] (dsp 3 dW)):FnOk P w K mg base CX0 3 a.ears_in a.fd_ears_in ["left"] (dsp 1 gJ):=by
 refine dF T.F_ears_in pY (by decide) iB (fun cdv A outer s H E hr=>?_)
 have nd:=pY.nd
 unfold iB
 exact(aG (aL (i:=1) nd rfl (Or.inl rfl) (dA aE))
  (aG (kU (own:=[2,3]) (gY (bG (aW (by decide)) (bG (aW (by decide)) eY))) (fun Γ=>jM PassesOwn.never rfl (gI (dB K (by rfl) (aA (pv 0))) Γ) (cZ (n:=2) K rfl rfl (bE (aR (i:=2) nd rfl (Or.inr rfl)) (bE (aR (i:=3) nd rfl (Or.inl rfl)) eE)))
  (gSs (aP (iJ (vA vK (fun Γ=>gW K (by rfl) PySem.F.plainAttrs_list PySem.F.slot_list_extend PySem.F.type_list_extend vJ (pv 1) (gA (aB (cY (ow:=[4]) (aW (by decide)) (fun Γ=>cT (csc [4] (by kernel_rfl)) (gI (dB K (by rfl) (aQ (fun Γ=>aJ G_holders_of (hr.mono (by decide)) (by rfl) T.m_holders_of T.F_holders_of.kp (tK T) .nil bK (gA (aB (aA (pv 0)) (aB (aA (pv 2)) (aB (aA (pv 3)) aE))) Γ)))) Γ) (fun _ _ _ _=>(aR (i:=4) nd rfl (Or.inl rfl) (.inr rfl))) (aS (by decide)) (fun _ _ _ _=>gL) (fun _ _ _ _=>gE (nM (aB (cM (aA (pv 2))) (aB (cM (aA (pv 4))) aE))) Γ))) aE) Γ))))) Γ)))
  (aP (cA (aA (pv 1))))))
theorem tU(T:Txt K mg a)(G_ears_in:FnOk P w K mg base CX0 3 a.ears_in a.fd_ears_in ["left"] (dsp 1 gJ))(G_without:FnOk P w K mg base CX0 1 a.without a.fd_without ["question","name"] (dsp 2 eA)):FnOk P w K mg base CX0 4 a.ears_show a.fd_ears_show ["question","some"] (dsp 2 dO):=by
 refine dF T.F_ears_show mO (by decide) fO (fun cdv A outer s H E hr=>?_)
 have nd:=mO.nd
 unfold fO
 exact(aG (aL (i:=2) nd rfl (Or.inl rfl) (cM (aA (pv 0))))
  (aG (kU (own:=[3,4]) (gY (bG (aW (by decide)) (bG (aW (by decide)) eY))) (fun Γ=>jM PassesOwn.never rfl (gI (dB K (by rfl) (aA (pv 1))) Γ) (cZ (n:=2) K rfl rfl (bE (aR (i:=3) nd rfl (Or.inl rfl)) (bE (aR (i:=4) nd rfl (Or.inl rfl)) eE)))
  (gSs (aG (gP (bP (hJ hr.units) (jQ (neg:=true)) (nM (aB (cM (aA (pv 3))) (aB (cM (aA (pv 4))) aE))) (aQ (fun Γ=>aJ G_ears_in (hr.mono (by decide)) (by rfl) T.m_ears_in T.F_ears_in.kp (aW5 T) .nil bK (gA (aB (aA (pv 2)) aE) Γ))) (by with_unfolding_all rfl)) (aP (cA uX)) cV)
  (aP (aL (i:=2) nd rfl (Or.inl rfl) (aQ (fun Γ=>aJ G_without (hr.mono (by decide)) (by rfl) T.m_without T.F_without.kp (tI T) .nil bK (gA (aB (aA (pv 2)) (aB (aA (pv 3)) aE)) Γ)))))) Γ)))
  (aP (cA (kQ (eB hr.units) (cK (neg:=false)) (cJ cE (fun Γ=>aZ bB (by rfl) T.n_len bJ (gA (aB (aA (pv 2)) aE) Γ))) ge_int (bF _))))))
theorem cI8(T:Txt K mg a)(G_law_question:FnOk P w K mg base CX0 5 a.law_question a.fd_law_question ["_law_box_here"] (aJ7 1 cH))(G_law_box:FnOk P w K mg base CX0 1 a.law_box a.fd_law_box ["_law_script","_law_k"] (dsp 2 cN))(G_law_begun:FnOk P w K mg base CX0 2 a.law_begun a.fd_law_begun ["_law_box_here","_law_question_here"] (dsp 2 dL))(G_law_spoilt:FnOk P w K mg base CX0 2 a.law_spoilt a.fd_law_spoilt ["_law_box_here","_law_question_here","_law_some_here"] (dsp 3 cB))(G_law_take:FnOk P w K mg base CX0 1 a.law_take a.fd_law_take ["_law_box_here","_law_many"] (dsp 2 aF))(G_law_truth:FnOk P w K mg base CX0 1 a.law_truth a.fd_law_truth ["_law_found","_law_due"] (dsp 2 dM))(G_law_shows:FnOk P w K mg base CX0 2 a.law_shows a.fd_law_shows ["_law_question_here","_law_some_here"] (dsp 2 dN))(G_ears_show:FnOk P w K mg base CX0 4 a.ears_show a.fd_ears_show ["question","some"] (dsp 2 dO)):FnOk P w K mg base CX0 6 a.law a.fd_law ["_law_script"] (aJ7 1 oJ):=by
 refine vD T.F_law bL1 (by decide) qC xC (fun cdv A outer s H E hr=>GM.to ?_)
 have nd:=bL1.nd
 unfold qC
 exact(wZ (aX2 (xA dX) (fun Γ=>rW (i:=1) nd rfl (Or.inl rfl) (aJ G_law_question (hr.mono (by decide)) (by rfl) T.m_law_question T.F_law_question.kp (pD T) .nil bK (gA (aB (aQ (fun Γ=>aJ G_law_box (hr.mono (by decide)) (by rfl) T.m_law_box T.F_law_box.kp (oG T) .nil bK (gA (aB (aA (pv 0)) (aB ge_int aE)) Γ))) aE) Γ))))
  (aX1 (aG (aL (i:=2) nd rfl (Or.inl rfl) (aQ (fun Γ=>aJ G_law_begun (hr.mono (by decide)) (by rfl) T.m_law_begun T.F_law_begun.kp (wQ T) .nil bK (gA (aB (aQ (fun Γ=>aJ G_law_box (hr.mono (by decide)) (by rfl) T.m_law_box T.F_law_box.kp (oG T) .nil bK (gA (aB (aA (pv 0)) (aB ge_int aE)) Γ))) (aB (aA (pv 1)) aE)) Γ))))
  (aG (aL (i:=3) nd rfl (Or.inl rfl) (dA (aB (cM (aA (pv 2))) (aB (cM (dA aE)) aE))))
  (aG (kU (own:=[4]) (aW (by decide)) (fun Γ=>jM PassesOwn.never rfl (gI (bQ7 (fun Γ=>aD9 (by rfl) T.n_range (gA (aB ge_int (aB (cJ bD5 (fun Γ=>aZ (aE5 (by rfl)) (by rfl) T.n_max bE4 (gA (aB ge_int (aB (cJ yR (fun Γ=>aZ (nE (by rfl)) (by rfl) T.n_min rG (gA (aB ge_int (aB (cJ cE (fun Γ=>aZ bB (by rfl) T.n_len bJ (gA (aB (aA (pv 0)) aE) Γ))) aE)) Γ))) aE)) Γ))) aE)) Γ)) cU8) Γ) (aR (i:=4) nd rfl (Or.inl rfl))
  (gSs (aG (aL (i:=5) nd rfl (Or.inl rfl) (aQ (fun Γ=>aJ G_law_box (hr.mono (by decide)) (by rfl) T.m_law_box T.F_law_box.kp (oG T) .nil bK (gA (aB (aA (pv 0)) (aB (aA (pv 4)) aE)) Γ))))
  (aG (aL (i:=6) nd rfl (Or.inl rfl) (aQ (fun Γ=>aJ G_law_spoilt (hr.mono (by decide)) (by rfl) T.m_law_spoilt T.F_law_spoilt.kp (mP T) .nil bK (gA (aB (aA (pv 5)) (aB (aA (pv 1)) (aB (aA (pv 2)) aE))) Γ))))
  (aG (gP (GW.gt (aI9 (bP (eB hr.units) (cK (neg:=false)) (aQ (fun Γ=>aJ G_law_take (hr.mono (by decide)) (by rfl) T.m_law_take T.F_law_take.kp (aM T) .nil bK (gA (aB (aA (pv 5)) (aB ge_int aE)) Γ))) ge_int (bF _)) (uZ (bP (kX hr.units) (cK (neg:=true)) (aA (pv 6)) (dA aE) (bF _))))) (aP (aL (i:=6) nd rfl (Or.inl rfl) (aQ (fun Γ=>aJ G_law_spoilt (hr.mono (by decide)) (by rfl) T.m_law_spoilt T.F_law_spoilt.kp (mP T) .nil bK (gA (aB (aA (pv 5)) (aB (aA (pv 1)) (aB (aA (pv 6)) aE))) Γ))))) cV)
  (aP (iJ (jW lP (fun Γ=>gW K (by rfl) PySem.F.plainAttrs_list PySem.F.slot_list_append PySem.F.type_list_append fB (pv 3) (gA (aB (cM (aA (pv 6))) aE) Γ)))))))) Γ)))
  (aG (kU (own:=[6]) (aW (by decide)) (fun Γ=>jM PassesOwn.never rfl (gI (dB K (by rfl) (aU bC bD (aA (pv 3)) (cW (aA (pv 3)) dY (dZ ge_int)))) Γ) (aR (i:=6) nd rfl (Or.inl rfl))
  (gSs (aG (aL (i:=7) nd rfl (Or.inl rfl) (cJ jJ (fun Γ=>cI fV (by rfl) T.n_list eN (gA (aB (aA (pv 6)) aE) Γ))))
  (aG (gP (cF0 (aI8 (aQ (fun Γ=>aJ G_law_truth (hr.mono (by decide)) (by rfl) T.m_law_truth T.F_law_truth.kp (wR T) .nil bK (gA (aB (aQ (fun Γ=>aJ G_ears_show (hr.mono (by decide)) (by rfl) T.m_ears_show T.F_ears_show.kp (wT T) .nil bK (gA (aB (aA (pv 1)) (aB (aA (pv 7)) aE)) Γ))) (aB (aQ (fun Γ=>aJ G_law_shows (hr.mono (by decide)) (by rfl) T.m_law_shows T.F_law_shows.kp (wS T) .nil bK (gA (aB (aA (pv 1)) (aB (aA (pv 6)) aE)) Γ))) aE)) Γ))))) (aP (cA uX)) cV)
  (aP (gP (bP (kX hr.units) (cK (neg:=true)) (aA (pv 7)) (aA (pv 6)) (bF _)) (aP (cA uX)) cV)))) Γ)))
  (aP (cA uX))))))))
end
end Mr
namespace Dv
open PySem L2 Mr
mutual
def smp:D->Bool
 | .non=>true
 | .int _=>true
 | .str z=>PyData.strOk z
 | .tup l=>smps l
 | .lst l=>smps l
 | _=>false
def smps:List D->Bool
 | []=>true
 | d::r=>smp d&&smps r
end
mutual
theorem aX4:∀ {d:D},smp d=true->(jP d).canLay0=true
 | .non,_=>rfl
 | .int _,_=>rfl
 | .str z,h=>h
 | .tup l,h=>smps_lay (l:=l) h
 | .lst l,h=>smps_lay (l:=l) h
 | .bl _,h=>nomatch h
 | .dic _ _,h=>nomatch h
theorem smps_lay:∀ {l:List D},smps l=true->PyData.canLayAll0 (toPys l)=true
 | [],_=>rfl
 | d::r,h=>by
   have h':smp d=true/\smps r=true:=by simpa[smps]using h
   show((jP d).canLay0&&PyData.canLayAll0 (toPys r))=true
   rw[aX4 h'.1,smps_lay h'.2];rfl
end
mutual
theorem aX5:∀ {d e:D},smp d=true->smp e=true->(PyData.eqv (jP d) (jP e)=true↔d=e)
 | .non,e,_,he=>by cases e<;>simp_all [jP,PyData.eqv,smp]
 | .str x,e,_,he=>by cases e<;>simp_all [jP,PyData.eqv,smp]
 | .int i,e,_,he=>by cases e<;>simp_all [jP,PyData.eqv,smp]
 | .tup l,e,hd,he=>by
   cases e with
   | tup m=>
     show PyData.eqvAll (toPys l) (toPys m)=true↔_
     rw[eqvs_smp (l:=l) (m:=m) hd he,D.tup.injEq]
   | _=>simp_all [jP,PyData.eqv,smp]
 | .lst l,e,hd,he=>by
   cases e with
   | lst m=>
     show PyData.eqvAll (toPys l) (toPys m)=true↔_
     rw[eqvs_smp (l:=l) (m:=m) hd he,D.lst.injEq]
   | _=>simp_all [jP,PyData.eqv,smp]
 | .bl _,_,h,_=>nomatch h
 | .dic _ _,_,h,_=>nomatch h
theorem eqvs_smp:∀ {l m:List D},smps l=true->smps m=true->(PyData.eqvAll (toPys l) (toPys m)=true↔l=m)
 | [],[],_,_=>by simp[toPys,PyData.eqvAll]
 | [],e::m,_,_=>by simp[toPys,PyData.eqvAll]
 | d::l,[],_,_=>by simp[toPys,PyData.eqvAll]
 | d::l,e::m,hd,he=>by
   have h1:smp d=true/\smps l=true:=by simpa[smps]using hd
   have h2:smp e=true/\smps m=true:=by simpa[smps]using he
   show((jP d).eqv (jP e)&&PyData.eqvAll (toPys l) (toPys m))=true↔_
   rw[Bool.and_eq_true,aX5 h1.1 h2.1,eqvs_smp h1.2 h2.2,List.cons.injEq]
end
structure Ok(n:Nat)(d:D):Prop where
 smp:Dv.smp d=true
 dep:(jP d).depth<=n
theorem xF:∀ {l:List D},(∀ d∈l,smp d=true)->smps l=true
 | [],_=>rfl
 | d::r,h=>by
   show(smp d&&smps r)=true
   rw[h d List.mem_cons_self,xF fun x hx=>h x (List.mem_cons_of_mem _ hx)];rfl
theorem xG{n:Nat}:∀ {l:List D},(∀ d∈l,(jP d).depth<=n)->PyData.depthAll (toPys l)<=n
 | [],_=>Nat.zero_le _
 | d::r,h=>Nat.max_le.mpr ⟨h d List.mem_cons_self,xG fun x hx=>h x (List.mem_cons_of_mem _ hx)⟩
theorem Ok.lst{n:Nat}{l:List D}(h:∀ d∈l,Ok n d):Ok (n+1) (.lst l):=⟨xF fun d hd=>(h d hd).smp,Nat.succ_le_succ (xG fun d hd=>(h d hd).dep)⟩
theorem Ok.tup{n:Nat}{l:List D}(h:∀ d∈l,Ok n d):Ok (n+1) (.tup l):=⟨xF fun d hd=>(h d hd).smp,Nat.succ_le_succ (xG fun d hd=>(h d hd).dep)⟩
theorem Ok.int{n:Nat}{i:Int}:Ok n (.int i):=⟨rfl,Nat.zero_le _⟩
theorem Ok.non{n:Nat}:Ok n .non:=⟨rfl,Nat.zero_le _⟩
theorem Ok.str{n:Nat}{z:Str}(h:∀ c∈z.cps.toList,c < 128):Ok n (.str z):=by
 refine⟨?_,Nat.zero_le _⟩
 show PyData.strOk z=true
 unfold PyData.strOk
 rw[← Array.all_toList,List.all_eq_true]
 intro c hc
 have:=h c hc
 simp;omega
theorem Ok.cmp{n:Nat}{d:D}(h:Ok n d)(hn:n<=60):jA d=true:=by
 unfold jA
 rw[aX4 h.smp,decide_eq_true (Nat.le_trans h.dep hn)];rfl
theorem aX6{n m:Nat}{d e:D}(h1:Ok n d)(h2:Ok m e):uF d e=decide (d=e):=by
 rw[Bool.eq_iff_iff,decide_eq_true_eq];exact aX5 h1.smp h2.smp
theorem aX7{neg:Bool}{n m:Nat}{d e:D}(h1:Ok n d)(h2:Ok m e)(hn:n<=60)(hm:m<=60){K:Res->Prop}(k:K (.val (.bl (if neg=true then !decide (d=e)else decide (d=e))))):OK1 (eqD neg d e) K:=by
 unfold eqD
 rw[if_pos ⟨h1.cmp hn,h2.cmp hm⟩,aX6 h1 h2]
 exact k
theorem oN{neg:Bool}{n:Nat}{l:List D}(h:∀ d∈l,Ok n d)(hn:n < 60){K:Res->Prop}(k:K (.val (.bl (if neg=true then !l.isEmpty else l.isEmpty)))):OK1 (eqD neg (.lst l) (.lst [])) K:=by
 refine aX7 (n:=n+1) (m:=1) (.lst h) (.lst (n:=0) fun _ z=>absurd z List.not_mem_nil) (by omega) (by decide) ?_
 rw[show decide (D.lst l=D.lst [])=l.isEmpty by rw[Bool.eq_iff_iff,decide_eq_true_eq,D.lst.injEq,List.isEmpty_iff]]
 exact k
theorem bL4{n m:Nat}{d:D}(h:Ok n d):∀ {l:List D},(∀ x∈l,Ok m x)->(l.any fun y=>uF y d)=decide (d∈l)
 | [],_=>by simp
 | x::r,hl=>by
   rw[List.any_cons,bL4 h fun y hy=>hl y (List.mem_cons_of_mem _ hy),aX6 (hl x List.mem_cons_self) h,Bool.eq_iff_iff,Bool.or_eq_true,decide_eq_true_eq,decide_eq_true_eq,decide_eq_true_eq,List.mem_cons,eq_comm]
theorem bL5{neg:Bool}{n m:Nat}{d:D}{l:List D}{b:Bool}(h1:Ok n d)(h2:∀ x∈l,Ok m x)(hn:n<=60)(hm:m < 60){K:Res->Prop}(k:K (.val (.bl (if neg=true then !decide (d∈l)else decide (d∈l))))):OK1 (inD neg d (if b=true then .lst l else .tup l)) K:=by
 have e:inD neg d (if b=true then .lst l else .tup l)=if jA d=true/\jA (if b=true then .lst l else .tup l)=true then some (.val (.bl (if neg then !(l.any fun y=>uF y d)else l.any fun y=>uF y d)))else none:=by
  cases b<;>cases d<;>rfl
 have cm:jA (if b=true then .lst l else .tup l)=true:=by
  cases b
  ·exact(Ok.tup h2).cmp (by omega)
  ·exact(Ok.lst h2).cmp (by omega)
 rw[e,if_pos ⟨h1.cmp hn,cm⟩,bL4 h1 h2]
 exact k
theorem oO{neg:Bool}{n m:Nat}{d:D}{l:List D}(h1:Ok n d)(h2:∀ x∈l,Ok m x)(hn:n<=60)(hm:m < 60){K:Res->Prop}(k:K (.val (.bl (if neg=true then !decide (d∈l)else decide (d∈l))))):OK1 (inD neg d (.lst l)) K:=bL5 (b:=true) h1 h2 hn hm k
theorem bV0{neg:Bool}{n m:Nat}{d:D}{l:List D}(h1:Ok n d)(h2:∀ x∈l,Ok m x)(hn:n<=60)(hm:m < 60){K:Res->Prop}(k:K (.val (.bl (if neg=true then !decide (d∈l)else decide (d∈l))))):OK1 (inD neg d (.tup l)) K:=bL5 (b:=false) h1 h2 hn hm k
end Dv
namespace Mr
open PySem L2 Dv
local macro_rules | `(tactic| walk_at "dx")=>`(tactic| simp only[↓cQ0,↓aK8,↓aK9,↓aL0,↓aL1,↓aL2,↓aL3,↓aL4,↓aL5,↓aL6,↓aL7,↓aL8,↓aL9,↓aM0,↓aM1,↓aM2,↓aM3,↓bR9,↓aM4,↓rC,↓vL,↓aM5,↓aM6,↓vM,↓vN,↓vO,↓aM7,↓aM8,↓bS0,↓aM9,↓aN0,↓bS1,↓aN1,↓aN2,↓aN3,↓aN4,↓aN5,↓aN6,↓vP,↓vQ,↓aN7,↓aN8,↓aN9,↓aO0,↓aO1,↓vR,↓aO2,↓vS,↓aO3,↓aO4,↓aO5,↓aO6,↓aO7,↓aW7,↓aO8,↓aO9,↓aP0,↓vT,↓vU,↓aP1,↓aP2,↓aP3,↓aP4,↓aP5,↓aP6,↓aP7,↓xB,↓wY,↓aP8,↓aP9,↓aQ0,↓bS3,↓vV,↓rD,↓vW,↓aQ1,↓aQ2,↓vX,↓aR5,↓aR6,↓aR7,↓aR8,↓aR9,↓aS0,↓aS1,↓aS2,↓aS3,↓wW,↓bS4,↓aS4,↓wG,↓wH,↓rJ,↓oH,↓aW6,↓rH,↓wV,↓wP,↓aS6,↓wI,↓wJ,↓aS7,↓aS8,↓aS9,↓aT0,↓aT1,↓bS8,↓bS9,↓bT0,↓bT1,↓aT2,↓aT3,↓aT4,↓wK,↓wL,↓aT5,↓wM,↓aT6,↓aT7,↓wN,↓rE,↓aT8,↓wO,↓bT2,↓aT9,↓aU0,↓aU1,↓aU2,↓bT3,↓aU4,↓cQ2,↓aU5,↓aU6,↓aU3,↓cF,aV1,aV2,aV3,bE0,bT4,Int.reducePow,Int.reduceNeg,Int.reduceLT,Int.reduceLE,Nat.reducePow,Nat.reduceLT,Int.reduceToNat,Nat.reduceLeDiff,↓aU7,↓aU8,↓aU9,↓aV0,aV6,aV4,bT5,aV5,↓aQ3,↓aQ4,↓aQ5,↓aQ6,↓aQ7,↓aQ8,↓aQ9,↓aR0,↓aR1,↓vY,↓vZ,↓wA,↓wB,↓aR2,↓aR3,↓aR4,wC,wD,wE,wF,List.set_cons_zero,List.set_cons_succ,eM,bA4,List.length_cons,List.length_nil,Nat.reduceAdd,Nat.zero_add,true_and,and_true,and_self,Bool.not_false,Bool.not_true,Bool.false_eq_true,Bool.true_and,Bool.and_true,Bool.or_false,↓reduceIte,decide_eq_true_eq])
theorem sl2:(2<=sizeLine):=by decide
theorem bR{a b m:Int}(h:0 < m)(h2:m < 18446744073709551616){K:Res->List Sl->Prop}(k:∀ d a' b',0<=d->d < m->K (.val (.int d)) [⟨.par,.lst [.int a',.int b']⟩,⟨.val,.int m⟩]):CK aF [⟨.par,.lst [.int a,.int b]⟩,⟨.val,.int m⟩] K:=by
 unfold aF
 rw[fJ]
 show RS gF [_,_,none,none] _
 unfold gF
 walk_at "dx"
 rw[bE0 h h2]
 split
 ·exact⟨h,True.intro,k _ _ _ (Int.emod_nonneg _ (by omega)) (Int.emod_lt_of_pos _ h)⟩
 ·exact⟨h,k _ _ _ (Int.emod_nonneg _ (by omega)) (Int.emod_lt_of_pos _ h)⟩
theorem aX8{ns:List Int}{i:Int}(h0:0<=i)(h1:i < (ns.length:Int)):∃ c,atI (ns.map D.int) i=some (.int c):=by
 obtain⟨c,hc⟩:=aH2 (ys:=ns) h0 h1
 exact⟨c,by rw[aH3,hc];rfl⟩
theorem aX9{ns:List Int}{n:Int}(h0:0<=n)(h1:n < 1000){K:Res->List Sl->Prop}(k:∀ a b,K (.own (.lst [.int a,.int b])) [⟨.val,.lst (ns.map D.int)⟩,⟨.val,.int n⟩]):CK cN [⟨.val,.lst (ns.map D.int)⟩,⟨.val,.int n⟩] K:=by
 unfold cN
 rw[fJ]
 show RS hX [_,_,none,none] _
 unfold hX
 walk_at "dx"
 split
 ·rename_i hc
  obtain⟨c,hc⟩:=aX8 (ns:=ns) h0 (by simpa using hc)
  rw[hc]
  walk_at "dx"
  exact⟨sl2,k _ _⟩
 ·split
  ·rename_i hc
   refine⟨hc,?_⟩
   obtain⟨c,hc⟩:=aX8 (ns:=ns) (i:=n % ((ns.map D.int).length:Int)) (Int.emod_nonneg _ (by omega)) (by have:=Int.emod_lt_of_pos n hc;simpa using this)
   rw[hc]
   walk_at "dx"
   exact⟨sl2,k _ _⟩
  ·exact⟨sl2,k _ _⟩
theorem lE{lo:Int}{n i:Nat}{d:D}(h:(nO lo n)[i]? = some d):i < n/\d=.int (lo+i):=by
 unfold nO at h
 rw[List.getElem?_map]at h
 cases e:(List.range n)[i]? with
 | none=>rw[e]at h;cases h
 | some k=>
   rw[e]at h
   obtain⟨hi,hk⟩:=List.getElem?_eq_some_iff.mp e
   rw[List.length_range]at hi
   rw[List.getElem_range]at hk
   subst hk
   exact⟨hi,(Option.some.inj h).symm⟩
theorem cX(lo:Int)(n:Nat):(nO lo n).length=n:=by simp[nO]
theorem aY0{α:Type}{l:List α}{i:Int}{c:α}(h:atI l i=some c):c∈l:=by
 unfold atI at h
 obtain⟨j,_,h2⟩:=aD h
 exact List.mem_of_getElem? h2
theorem cI9{l:List D}{d:Int}(h0:0<=d)(h1:d < (l.length:Int))(h2:d < 9223372036854775808){K:D×D->Prop}(k:∀ y r,(y::r).Perm l->r.length+1=l.length->K (.lst r,y)):OK1 (sX (.lst l) [.int d]) K:=by
 obtain⟨n,rfl⟩:∃ n:Nat,d=n:=⟨d.toNat,by omega⟩
 have hn:n < l.length:=by omega
 unfold sX
 dsimp only
 rw[if_pos ⟨by omega,by omega⟩]
 have e:ixN l.length (n:Int)=some n:=by
  unfold ixN
  rw[if_pos (by omega),if_pos (by omega)];simp
 rw[e]
 show OK1 ((l[n]?).map _) K
 rw[List.getElem?_eq_getElem hn]
 exact k _ _ (pK l n hn) (by rw[List.length_eraseIdx_of_lt hn];omega)
theorem oP{a b:Int}{xs:List D}{m:Md}{t:D}(hm:m=.par/\t=.lst xs\/m=.val/\t=.lst xs\/m=.val/\t=.tup xs)(hl:xs.length<=1000){K:Res->List Sl->Prop}(k:∀ ys a' b',ys.Perm xs->K (.own (.lst ys)) [⟨.par,.lst [.int a',.int b']⟩,⟨m,t⟩]) :
  CK aY [⟨.par,.lst [.int a,.int b]⟩,⟨m,t⟩] K:=by
 unfold aY
 rw[fJ]
 show RS dG [_,_,none,none] _
 unfold dG
 rcases hm with⟨rfl,rfl⟩ | ⟨rfl,rfl⟩ | ⟨rfl,rfl⟩
 all_goals
  walk_at "dx"
  refine⟨Nat.zero_le _,?_⟩
  refine pZ (fun m τ=>∃ a' b' aI found,m=aI.length/\aI.length<=xs.length/\found.length+aI.length=xs.length/\(found++aI).Perm xs/\τ=[some ⟨.par,.lst [.int a',.int b']⟩,some _,some ⟨.own,.lst aI⟩,some ⟨.own,.lst found⟩]) xs.length (by omega) ⟨a,b,xs,[],rfl,Nat.le_refl _,by simp,.refl _,rfl⟩ ?_
  rintro m τ ⟨a',b',aI,found,rfl,hl1,hl2,hp,rfl⟩
  walk_at "dx"
  split
  ·rename_i hpos
   refine bR (by simpa using hpos) (by omega) fun d a2 b2 d0 d1=>?_
   walk_at "dx"
   refine cI9 d0 (by simpa using d1) (by omega) fun y r hpr hr=>?_
   refine⟨Nat.lt_of_lt_of_le (by omega:found.length < 1001) (by decide),.inl ⟨_,r.length,.inl rfl,by omega,a2,b2,r,found++[y],rfl,by omega,by rw[List.length_append];simp only[List.length_cons,List.length_nil];omega,?_,rfl⟩⟩
   rw[List.append_assoc]
   exact(List.Perm.append_left found hpr).trans hp
  ·rename_i hpos
   have:aI=[]:=List.eq_nil_of_length_eq_zero (by omega)
   subst this
   exact k found a' b' (by simpa using hp)
theorem oQ(l:List D){n:Int}(h:0<=n):sV l none (some n)=l.take n.toNat:=by
 obtain⟨k,rfl⟩:=Int.eq_ofNat_of_zero_le h
 unfold sV
 rw[HT.sIx_none,HT.sIx_nat,List.drop_zero,Nat.sub_zero,Int.toNat_natCast]
 by_cases h:k<=l.length
 ·rw[Nat.min_eq_left h]
 ·rw[Nat.min_eq_right (by omega),List.take_length,List.take_of_length_le (by omega)]
theorem bF3(l:List D){n:Int}(h:0<=n):sV l (some n) none=l.drop n.toNat:=by
 obtain⟨k,rfl⟩:=Int.eq_ofNat_of_zero_le h
 unfold sV
 rw[HT.sIx_none,HT.sIx_nat,Int.toNat_natCast]
 by_cases h:k<=l.length
 ·rw[Nat.min_eq_left h,List.take_of_length_le (by rw[List.length_drop];omega)]
 ·rw[Nat.min_eq_right (by omega),List.drop_length,List.drop_of_length_le (by omega),List.take_nil]
theorem xH{a b:Int}{xs:List D}{m:Md}{t:D}(hm:m=.par/\t=.lst xs\/m=.val/\t=.lst xs)(h0:xs≠[])(hl:xs.length<=1000){K:Res->List Sl->Prop}
  (k:∀ ys a' b',ys≠[]->ys.length<=4->(∀ y∈ys,y∈xs)->K (.own (.lst ys)) [⟨.par,.lst [.int a',.int b']⟩,⟨m,t⟩]):CK bQ [⟨.par,.lst [.int a,.int b]⟩,⟨m,t⟩] K:=by
 have hp:0 < xs.length:=List.length_pos_iff.mpr h0
 have h4:∃ n:Int,(if(xs.length:Int) < 4 then(xs.length:Int)else 4)=n/\1<=n/\n<=4:=⟨_,rfl,by split<;>omega,by split<;>omega⟩
 obtain⟨n,en,n1,n4⟩:=h4
 unfold bQ
 rw[fJ]
 show RS gG [_,_] _
 unfold gG
 rcases hm with⟨rfl,rfl⟩ | ⟨rfl,rfl⟩
 all_goals
  walk_at "dx"
  first | refine⟨by decide,oP (xs:=xs) (by simp) hl fun ys a1 b1 hp1=>?_⟩ | refine oP (xs:=xs) (by simp) hl fun ys a1 b1 hp1=>?_
  walk_at "dx"
  rw[en]
  refine bR (by omega) (by omega) fun d a2 b2 d0 d1=>?_
  walk_at "dx"
  rw[oQ _ (by omega)]
  have e1:=hp1.length_eq
  refine k _ _ _ (fun z=>?_) ?_ fun y hy=>hp1.mem_iff.mp (List.mem_of_mem_take hy)
  ·have:=congrArg List.length z
   rw[List.length_take,List.length_nil]at this
   omega
  ·rw[List.length_take];omega
noncomputable def Tx(z:Str):Prop:=z.length<=100/\∀ c∈z.cps.toList,c < 128
theorem bL6{z:Str}{lo hi:Option Int}{K:Res->Prop}:SK (.str z) lo hi K=(z.length<=sizeLine/\K (.val (.str (PySem.Txt.slice z lo hi)))):=by
 show OK1 (if _ then _ else none) K=_
 rw[bZ];rfl
theorem aY1{z:Str}{i:Int}{K:Res->Prop}:OK1 (vH (.str z) (.int i)) K=((z.length<=1000/\0<=i/\i<=1000)/\K (.val (.str (PySem.Txt.mul z i)))):=by
 unfold vH
 dsimp only
 rw[bZ];rfl
theorem cJ0{i:Nat}{σ τ:Sg}:jX [i] σ τ=τ.set i (σ[i]?.getD none):=rfl
theorem bF4:(Str.ofString "abcdefghijklmnopqrstuvwxyz").cps.toList.length=26:=by decide
theorem qS(z:Str):z.length=z.cps.toList.length:=by show z.cps.size=_;simp
theorem oR(x y:Str):(x++y).cps.toList=x.cps.toList++y.cps.toList:=by show(x.cps++y.cps).toList=_;simp
theorem oS(x y:Str):(x++y).length=x.length+y.length:=by rw[qS,qS,qS,oR,List.length_append]
noncomputable def As(z:Str):Prop:=∀ c∈z.cps.toList,c < 128
theorem aY2{x y:Str}(hx:As x)(hy:As y):As (x++y):=by
 intro c hc
 rw[oR]at hc
 rcases List.mem_append.mp hc with h | h
 ·exact hx c h
 ·exact hy c h
theorem zE{z:Str}(h:As z)(lo hi:Option Int):As (PySem.Txt.slice z lo hi):=by
 intro c hc
 unfold PySem.Txt.slice at hc
 split at hc
 ·exact h c hc
 ·simp only[List.mem_filterMap]at hc
  obtain⟨i,_,hi⟩:=hc
  exact h c (Array.mem_toList_iff.mpr (Array.mem_of_getElem? hi))
theorem slice_le(z:Str)(lo hi:Option Int):(PySem.Txt.slice z lo hi).length<=z.length:=PySem.Txt.slice_le z lo hi
local macro_rules | `(tactic| walk_at "dx")=>`(tactic| simp only[↓bL6,↓aY1,↓cQ0,↓aK8,↓aK9,↓aL0,↓aL1,↓aL2,↓aL3,↓aL4,↓aL5,↓aL6,↓aL7,↓aL8,↓aL9,↓aM0,↓aM1,↓aM2,↓aM3,↓bR9,↓aM4,↓rC,↓vL,↓aM5,↓aM6,↓vM,↓vN,↓vO,↓aM7,↓aM8,↓bS0,↓aM9,↓aN0,↓bS1,↓aN1,↓aN2,↓aN3,↓aN4,↓aN5,↓aN6,↓vP,↓vQ,↓aN7,↓aN8,↓aN9,↓aO0,↓aO1,↓vR,↓aO2,↓vS,↓aO3,↓aO4,↓aO5,↓aO6,↓aO7,↓aW7,↓aO8,↓aO9,↓aP0,↓vT,↓vU,↓aP1,↓aP2,↓aP3,↓aP4,↓aP5,↓aP6,↓aP7,↓xB,↓wY,↓aP8,↓aP9,↓aQ0,↓bS3,↓vV,↓rD,↓vW,↓aQ1,↓aQ2,↓vX,↓aR5,↓aR6,↓aR7,↓aR8,↓aR9,↓aS0,↓aS1,↓aS2,↓aS3,↓wW,↓bS4,↓aS4,↓wG,↓wH,↓rJ,↓oH,↓aW6,↓rH,↓wV,↓wP,↓aS6,↓wI,↓wJ,↓aS7,↓aS8,↓aS9,↓aT0,↓aT1,↓bS8,↓bS9,↓bT0,↓bT1,↓aT2,↓aT3,↓aT4,↓wK,↓wL,↓aT5,↓wM,↓aT6,↓aT7,↓wN,↓rE,↓aT8,↓wO,↓bT2,↓aT9,↓aU0,↓aU1,↓aU2,↓bT3,↓aU4,↓cQ2,↓aU5,↓aU6,↓aU3,↓cF,aV1,aV2,aV3,bE0,bT4,Int.reducePow,Int.reduceNeg,Int.reduceLT,Int.reduceLE,Nat.reducePow,Nat.reduceLT,Int.reduceToNat,Nat.reduceLeDiff,↓aU7,↓aU8,↓aU9,↓aV0,aV6,aV4,bT5,aV5,↓aQ3,↓aQ4,↓aQ5,↓aQ6,↓aQ7,↓aQ8,↓aQ9,↓aR0,↓aR1,↓vY,↓vZ,↓wA,↓wB,↓aR2,↓aR3,↓aR4,wC,wD,wE,wF,cJ0,List.getElem?_cons_succ,List.getElem?_cons_zero,Option.getD_some,List.set_cons_zero,List.set_cons_succ,eM,bA4,List.length_cons,List.length_nil,Nat.reduceAdd,Nat.zero_add,true_and,and_true,and_self,Bool.not_false,Bool.not_true,Bool.false_eq_true,Bool.true_and,Bool.and_true,Bool.or_false,↓reduceIte,decide_eq_true_eq])
theorem aY3:∀ (zs:List Str),(∀ z∈zs,z.length<=1)->(zs.map (·.length)).sum<=zs.length
 | [],_=>by simp
 | z::r,h=>by
   have h1:=h z List.mem_cons_self
   have h2:=aY3 r fun y hy=>h y (List.mem_cons_of_mem _ hy)
   simp only[List.map_cons,List.sum_cons,List.length_cons]
   omega
theorem bV1{e:Int}(e0:0<=e)(e1:e < 26):∃ c,atI (Str.ofString "abcdefghijklmnopqrstuvwxyz").cps.toList e=some c/\c < 128:=by
 obtain⟨c,hc⟩:=aH2 (ys:=(Str.ofString "abcdefghijklmnopqrstuvwxyz").cps.toList) e0 (by rw[bF4];exact e1)
 exact⟨c,hc,bQ1 c (aY0 hc)⟩
theorem zF{c:Nat}(h:c < 128):As ⟨#[c]⟩:=by
 intro x hx
 have:x=c:=by simpa using hx
 subst this
 exact h
theorem tx1{c:Nat}(h:c < 128):Tx ⟨#[c]⟩:=⟨by show 1<=100;decide,zF h⟩
theorem qE{x y:Str}{m n:Nat}(h1:x.length<=m/\As x)(h2:y.length<=n/\As y):(x++y).length<=m+n/\As (x++y):=⟨by rw[oS];omega,aY2 h1.2 h2.2⟩
theorem bA3(c:Nat):Str.length ⟨#[c]⟩=1:=rfl
theorem cJ1{m:Int}(h:m=0\/m=1):(PySem.Txt.mul "z" m).length<=1/\As (PySem.Txt.mul "z" m):=by
 rcases h with rfl | rfl
 ·exact⟨by decide,by unfold As;decide⟩
 ·exact⟨by decide,by unfold As;decide⟩
theorem zm2(p:Prop)[Decidable p]:(if p then(1:Int)else 0)=0\/(if p then(1:Int)else 0)=1:=by
 split
 ·exact .inr rfl
 ·exact .inl rfl
theorem xI{e:Int}(e0:0<=e)(e1:e < 26):atI (Str.ofString "abcdefghijklmnopqrstuvwxyz").cps.toList e=some (97+e.toNat):=by
 have h:∀ n:Fin 26,atI (Str.ofString "abcdefghijklmnopqrstuvwxyz").cps.toList ((n:Nat):Int)=some (97+(n:Nat)):=by decide
 have:=h ⟨e.toNat,by omega⟩
 rwa[show((e.toNat:Nat):Int)=e by omega]at this
theorem bF5{ys:List Str}(h:∀ (i j:Nat) y,i < j->ys[i]? = some y->ys[j]? = some y->False):ys.Nodup:=by
 rw[List.nodup_iff_pairwise_ne,List.pairwise_iff_getElem]
 intro i j hi hj hij z
 exact h i j ys[i] hij (List.getElem?_eq_getElem hi) (by rw[z];exact List.getElem?_eq_getElem hj)
theorem zG{a b:Int}{K:Res->List Sl->Prop}(k:∀ (zs:List Str) a' b',zs.length=6->zs.Nodup->(∀ z∈zs,Tx z)->K (.own (.lst (zs.map D.str))) [⟨.par,.lst [.int a',.int b']⟩,⟨.val,.int 6⟩]) :
  CK cL [⟨.par,.lst [.int a,.int b]⟩,⟨.val,.int 6⟩] K:=by
 unfold cL
 rw[fJ]
 show RS fK [_,_,none,none,none,none,none,none,none,none,none,none] _
 unfold fK
 walk_at "dx"
 refine bR (by decide) (by decide) fun n a1 b1 n0 n5=>?_
 walk_at "dx"
 split
 ·refine bR (by decide) (by decide) fun p a2 b2 p0 p1=>?_
  walk_at "dx"
  rw[xI p0 (by omega)]
  walk_at "dx"
  refine⟨by decide,bR (by decide) (by decide) fun q a3 b3 q0 q1=>?_⟩
  walk_at "dx"
  rw[xI (e:=13+q) (by omega) (by omega)]
  walk_at "dx"
  simp only[oS,bA3]
  have l1:∀ {c:Nat},c < 128->Str.length ⟨#[c]⟩<=1/\As ⟨#[c]⟩:=fun h=>⟨Nat.le_refl 1,zF h⟩
  have t2:∀ {x:Str} {n:Nat},n<=100->x.length<=n/\As x->Tx x:=fun hn h=>⟨Nat.le_trans h.1 hn,h.2⟩
  have hp:97+p.toNat < 128:=by omega
  have hq:97+(13+q).toNat < 128:=by omega
  have ne:97+p.toNat≠97+(13+q).toNat:=by omega
  revert hp hq ne
  generalize 97+p.toNat=u
  generalize 97+(13+q).toNat=v
  intro hp hq ne
  have e2:∀ x y:Nat,(⟨#[x]⟩:Str)++⟨#[y]⟩=⟨#[x,y]⟩:=fun _ _=>rfl
  refine⟨by decide,⟨rfl,rfl,by decide⟩,by decide,by decide,by decide,by decide,by decide,by decide,by decide,by decide,by decide,?_⟩
  refine k [⟨#[u]⟩,⟨#[u]⟩++⟨#[v]⟩,⟨#[v]⟩,⟨#[v]⟩++⟨#[u]⟩,⟨#[u]⟩++⟨#[u]⟩,⟨#[u]⟩++⟨#[v]⟩++⟨#[u]⟩] _ _ rfl ?_ ?_
  ·rw[e2,e2,e2,show(⟨#[u,v]⟩:Str)++⟨#[u]⟩=⟨#[u,v,u]⟩from rfl]
   simp[ne,Ne.symm ne]
  ·intro z hz
   simp only[List.mem_cons,List.not_mem_nil,or_false]at hz
   rcases hz with rfl | rfl | rfl | rfl | rfl | rfl
   ·exact tx1 hp
   ·exact t2 (by decide) (qE (l1 hp) (l1 hq))
   ·exact tx1 hq
   ·exact t2 (by decide) (qE (l1 hq) (l1 hp))
   ·exact t2 (by decide) (qE (l1 hp) (l1 hp))
   ·exact t2 (by decide) (qE (qE (l1 hp) (l1 hq)) (l1 hp))
 ·refine bR (by decide) (by decide) fun n a1 b1 n0 n5=>?_
  walk_at "dx"
  refine⟨by omega,by rw[cX];exact Nat.le_trans (by omega:n.toNat<=5) (by decide),?_⟩
  refine hW _ _ (fun i acc τ=>i<=5/\∃ (zs:List Str) (a' b':Int),acc=zs.map D.str/\zs.length=i/\(∀ z∈zs,z.length<=1/\As z)/\τ=[some ⟨.par,.lst [.int a',.int b']⟩,some ⟨.val,.int 6⟩,some ⟨.val,.str "abcdefghijklmnopqrstuvwxyz"⟩,none,none,none,none,none,none,none,none,none]) ⟨by omega,[],a1,b1,rfl,rfl,by simp,rfl⟩ ?_ ?_
  ·rintro i d acc τ hd ⟨_,zs,a',b',rfl,hl,hz,rfl⟩
   obtain⟨hi,rfl⟩:=lE hd
   walk_at "dx"
   refine bR (by decide) (by decide) fun e a2 b2 e0 e1=>?_
   walk_at "dx"
   refine⟨by decide,?_⟩
   obtain⟨c,hc,c1⟩:=bV1 e0 e1
   rw[hc]
   walk_at "dx"
   refine⟨_,rfl,by omega,zs++[⟨#[c]⟩],a2,b2,by rw[List.map_append];rfl,by rw[List.length_append,hl];rfl,?_,rfl⟩
   intro z hz'
   rcases List.mem_append.mp hz' with h | h
   ·exact hz z h
   ·rw[List.mem_singleton]at h
    subst h
    exact⟨Nat.le_refl 1,zF c1⟩
  ·rintro acc τ ⟨h5,zs,a',b',rfl,hl,hz,rfl⟩
   have hs:=aY3 zs fun z h=>(hz z h).1
   rw[bT7]
   refine⟨by simp only[show(Str.ofString "").length=0 by decide];omega,?_⟩
   have hx:=uW (m:=128) (sep:=Str.ofString "") (by decide) zs fun z h=>(hz z h).2
   have hxl:(PySem.Txt.join (Str.ofString "") zs).length<=5:=by
    refine Nat.le_trans (bP0 _ _) ?_
    simp only[show(Str.ofString "").length=0 by decide];omega
   revert hx hxl
   generalize PySem.Txt.join (Str.ofString "") zs=x
   intro hx hxl
   have hxs:x.length<=sizeLine:=Nat.le_trans hxl (by decide)
   walk_at "dx"
   rw[rH hxs]
   walk_at "dx"
   refine bR (by omega) (by omega) fun k1 a2 b2 k10 k11=>?_
   walk_at "dx"
   refine bR (by omega) (by omega) fun k2 a3 b3 k20 k21=>?_
   walk_at "dx"
   refine bR (by omega) (by omega) fun k3 a4 b4 k30 k31=>?_
   walk_at "dx"
   refine⟨Nat.zero_le _,?_⟩
   refine kA (fun i τ=>i<=6/\∃ (ys:List Str) (o1 o2:Option Sl),((o1=none/\o2=none)\/∃ d e,o1=some ⟨.val,d⟩/\o2=some ⟨.val,e⟩)/\ys.length=i/\(∀ (j:Nat) y,ys[j]? = some y->Tx y/\∃ t,y.cps.toList=(PySem.Txt.slice x none (some k1)).cps.toList++(97+((k2+5*(j:Int)) % 26).toNat)::t)/\τ=[some ⟨.par,.lst [.int a4,.int b4]⟩,some ⟨.val,.int 6⟩,some ⟨.val,.str "abcdefghijklmnopqrstuvwxyz"⟩,none,none,some ⟨.val,.str x⟩,some ⟨.val,.int k1⟩,some ⟨.val,.int k2⟩,some ⟨.val,.int k3⟩,some ⟨.own,.lst (ys.map D.str)⟩,o1,o2]) ⟨by omega,[],none,none,.inl ⟨rfl,rfl⟩,rfl,(fun j y h=>by simp at h),rfl⟩ ?_ ?_
   ·rintro i d τ hd ⟨_,ys,o1,o2,ho,hy,hyt,rfl⟩
    obtain⟨hi,rfl⟩:=lE hd
    have hc:=xI (e:=(k2+5*(0+(i:Int))) % 26) (Int.emod_nonneg _ (by decide)) (Int.emod_lt_of_pos _ (by decide))
    have c1:97+((k2+5*(0+(i:Int))) % 26).toNat < 128:=by
     have:=Int.emod_lt_of_pos (k2+5*(0+(i:Int))) (b:=26) (by decide)
     omega
    have l1:=slice_le x none (some k1)
    have l2:=slice_le x (some k1) none
    have g1:=zE (z:=x) hx none (some k1)
    have g2:=zE (z:=x) hx (some k1) none
    have sl:100<=sizeLine:=by decide
    have done:∀ (w:Str) (t:Str) ,(w.length<=20/\As w)->(t.length<=1/\As t)->Tx (w++t):=fun w t hw ht=>by
     have:=qE hw ht
     exact⟨by omega,this.2⟩
    have fin:∀ t:Str,(t.length<=1/\As t)->∀ (j:Nat) y,(ys++[PySem.Txt.slice x none (some k1)++⟨#[97+((k2+5*(0+(i:Int))) % 26).toNat]⟩++PySem.Txt.slice x (some k1) none++t])[j]? = some y->Tx y/\∃ t,y.cps.toList=(PySem.Txt.slice x none (some k1)).cps.toList++(97+((k2+5*(j:Int)) % 26).toNat)::t:=fun t ht j y h=>by
     by_cases hj:j < ys.length
     ·rw[List.getElem?_append_left hj]at h
      exact hyt j y h
     ·have hj':j=i:=by
       have:=(List.getElem?_eq_some_iff.mp h).1
       rw[List.length_append,List.length_singleton]at this
       omega
      subst hj'
      rw[List.getElem?_append_right (by omega),hy,Nat.sub_self]at h
      obtain rfl:=Option.some.inj h
      refine⟨done _ _ ⟨?_,aY2 (aY2 g1 (zF c1)) g2⟩ ht,(PySem.Txt.slice x (some k1) none).cps.toList++t.cps.toList,?_⟩
      ·rw[oS,oS,bA3];omega
      ·rw[oR,oR,oR,Int.zero_add]
       simp
    rcases ho with⟨rfl,rfl⟩ | ⟨d,e,rfl,rfl⟩
    all_goals
     walk_at "dx"
     rw[hc]
     walk_at "dx"
     have z1:=cJ1 (zm2 ((0+(i:Int)) % 2=1))
     have z0:=cJ1 (m:=0) (.inl rfl)
     have zi:=zm2 ((0+(i:Int)) % 2=1)
     simp only[oS,bA3]
     revert zi z1
     generalize (if(0+(i:Int)) % 2=1 then(1:Int)else 0)=zz
     intro z1 zi
     refine⟨by omega,by decide,by omega,by omega,by omega,?_⟩
     have hyl:(List.map D.str ys).length < sizeLine:=by rw[List.length_map];omega
     split
     ·exact⟨⟨by decide,by omega,by omega⟩,by omega,hyl,_,.inl rfl,by omega,ys++[_],_,_,.inr ⟨_,_,rfl,rfl⟩,by rw[List.length_append,hy];rfl,fin _ z1,by rw[List.map_append];rfl⟩
     ·exact⟨by decide,by omega,hyl,_,.inl rfl,by omega,ys++[_],_,_,.inr ⟨_,_,rfl,rfl⟩,by rw[List.length_append,hy];rfl,fin _ z0,by rw[List.map_append];rfl⟩
   ·rintro τ ⟨_,ys,o1,o2,ho,hy,hyt,rfl⟩
    rw[cX]at hy
    have hn:ys.Nodup:=bF5 fun i j y hij h1 h2=>by
     obtain⟨_,t1,e1⟩:=hyt i y h1
     obtain⟨_,t2,e2⟩:=hyt j y h2
     rw[e1]at e2
     have e3:=(List.cons.inj (List.append_cancel_left e2)).1
     have hj:=(List.getElem?_eq_some_iff.mp h2).1
     rw[hy]at hj
     have h6:j < 6:=by omega
     omega
    have hyx:∀ z∈ys,Tx z:=fun z hz=>by
     obtain⟨j,hj⟩:=List.mem_iff_getElem?.mp hz
     exact(hyt j z hj).1
    rcases ho with⟨rfl,rfl⟩ | ⟨d,e,rfl,rfl⟩
    all_goals
     walk_at "dx"
     exact k _ _ _ hy hn hyx
theorem cJ2{l:List D}{K:List D->Prop}:OK1 (sS (.tup l)) K=K l:=rfl
theorem cJ3{l:List D}{K:List D->Prop}:OK1 (sS (.lst l)) K=K l:=rfl
theorem cJ4{l:List D}{K:List D->Prop}:OK1 (cM5 (.tup l)) K=K l:=rfl
theorem cJ5{l:List D}{K:List D->Prop}:OK1 (cM5 (.lst l)) K=K l:=rfl
theorem cJ6{i:Nat}{σ:Sg}:bY [i] σ=σ.set i none:=rfl
theorem cJ7{i j:Nat}{σ:Sg}:bY [i,j] σ=(σ.set i none).set j none:=rfl
theorem cQ7{i j:Nat}{σ τ:Sg}:jX [i,j] σ τ=(τ.set i (σ[i]?.getD none)).set j (σ[j]?.getD none):=rfl
noncomputable def ov(b:Bool)(d:D):Option Sl:=if b=true then some ⟨.val,d⟩else none
theorem cJ8{b:Bool}{d:D}{r:Sg}{s:Sl}{K:Sg->Prop}:Dv.PK 0 (ov b d::r) s K=K (some s::r):=by cases b<;>rfl
theorem bV2{l m:List D}{K:D×D->Prop}:OK1 (bD6 (.lst l) [.lst m]) K=(l.length+m.length<=sizeLine/\K (.lst (l++m),.non)):=by
 unfold bD6
 dsimp only[cL9]
 show OK1 (if _ then _ else none) K=_
 rw[bZ]
 rfl
theorem cJ9{b:MS}{Q:Out->Prop}{σ:Sg}:sqM b Q (.nx σ)=b σ Q:=rfl
theorem cV0{d:D}{r:Sg}:lendO (some 0) (some ⟨.own,d⟩::r)=some ⟨.lent,d⟩::r:=rfl
theorem cV1{d:D}{r:Sg}:lendO (some 0) (some ⟨.par,d⟩::r)=some ⟨.lent,d⟩::r:=rfl
theorem cV2{d:D}{r:Sg}:lendO (some 0) (some ⟨.val,d⟩::r)=some ⟨.val,d⟩::r:=rfl
theorem cV3{d:D}{r:Sg}:lendO (some 0) (some ⟨.lent,d⟩::r)=some ⟨.lent,d⟩::r:=rfl
theorem cV4{i:Nat}{o:Option Sl}{r:Sg}:lendO (some (i+1)) (o::r)=o::lendO (some i) r:=by
 show lend (i+1) (o::r)=o::lend i r
 unfold lend
 rw[List.getElem?_cons_succ]
 generalize r[i]? = x
 match x with
 | none=>rfl
 | some none=>rfl
 | some (some ⟨.own,_⟩)=>rfl
 | some (some ⟨.par,_⟩)=>rfl
 | some (some ⟨.val,_⟩)=>rfl
 | some (some ⟨.lent,_⟩)=>rfl
theorem cV5{d e:D}{m:Md}{r0 r:Sg}:pN (some 0) (some ⟨.own,e⟩::r0) (some ⟨m,d⟩::r)=some ⟨.own,d⟩::r:=rfl
theorem cV6{d e:D}{m:Md}{r0 r:Sg}:pN (some 0) (some ⟨.par,e⟩::r0) (some ⟨m,d⟩::r)=some ⟨.par,d⟩::r:=rfl
theorem cV7{d e:D}{m:Md}{r0 r:Sg}:pN (some 0) (some ⟨.val,e⟩::r0) (some ⟨m,d⟩::r)=some ⟨m,d⟩::r:=rfl
theorem cV8{d e:D}{m:Md}{r0 r:Sg}:pN (some 0) (some ⟨.lent,e⟩::r0) (some ⟨m,d⟩::r)=some ⟨m,d⟩::r:=rfl
theorem cV9{i:Nat}{o o':Option Sl}{r0 r:Sg}:pN (some (i+1)) (o::r0) (o'::r)=o'::pN (some i) r0 r:=by
 show unl (i+1) (o::r0) (o'::r)=o'::unl i r0 r
 unfold unl
 rw[List.getElem?_cons_succ,List.getElem?_cons_succ]
 generalize r0[i]? = x
 generalize r[i]? = y
 match x,y with
 | none,_=>rfl
 | some none,_=>rfl
 | some (some _),none=>rfl
 | some (some _),some none=>rfl
 | some (some ⟨.own,_⟩),some (some _)=>rfl
 | some (some ⟨.par,_⟩),some (some _)=>rfl
 | some (some ⟨.val,_⟩),some (some _)=>rfl
 | some (some ⟨.lent,_⟩),some (some _)=>rfl
theorem cW0{i:Nat}{σ τ:Sg}:pO (some i) σ (.nx τ)=.nx (pN (some i) σ τ):=rfl
theorem cW1{i:Nat}{σ τ:Sg}{x:Res}:pO (some i) σ (.rt x τ)=.rt x (pN (some i) σ τ):=rfl
local macro_rules | `(tactic| walk_at "dx")=>`(tactic| simp only[↓cJ9,↓bV2,↓cJ8,↓cJ3,↓cJ2,↓cJ4,↓cJ5,cJ6,cJ7,cQ7,↓bL6,↓aY1,↓cQ0,↓aK8,↓aK9,↓aL0,↓aL1,↓aL2,↓aL3,↓aL4,↓aL5,↓aL6,↓aL7,↓aL8,↓aL9,↓aM0,↓aM1,↓aM2,↓aM3,↓bR9,↓aM4,↓rC,↓vL,↓aM5,↓aM6,↓vM,↓vN,↓vO,↓aM7,↓aM8,↓bS0,↓aM9,↓aN0,↓bS1,↓aN1,↓aN2,↓aN3,↓aN4,↓aN5,↓aN6,↓vP,↓vQ,↓aN7,↓aN8,↓aN9,↓aO0,↓aO1,↓vR,↓aO2,↓vS,↓aO3,↓aO4,↓aO5,↓aO6,↓aO7,↓aW7,↓aO8,↓aO9,↓aP0,↓vT,↓vU,↓aP1,↓aP2,↓aP3,↓aP4,↓aP5,↓aP6,↓aP7,↓xB,↓wY,↓aP8,↓aP9,↓aQ0,↓bS3,↓vV,↓rD,↓vW,↓aQ1,↓aQ2,↓vX,↓aR5,↓aR6,↓aR7,↓aR8,↓aR9,↓aS0,↓aS1,↓aS2,↓aS3,↓wW,↓bS4,↓aS4,↓wG,↓wH,↓rJ,↓oH,↓aW6,↓rH,↓wV,↓wP,↓aS6,↓wI,↓wJ,↓aS7,↓aS8,↓aS9,↓aT0,↓aT1,↓bS8,↓bS9,↓bT0,↓bT1,↓aT2,↓aT3,↓aT4,↓wK,↓wL,↓aT5,↓wM,↓aT6,↓aT7,↓wN,↓rE,↓aT8,↓wO,↓bT2,↓aT9,↓aU0,↓aU1,↓aU2,↓bT3,↓aU4,↓cQ2,↓aU5,↓aU6,↓aU3,↓cF,aV1,aV2,aV3,bE0,bT4,Int.reducePow,Int.reduceNeg,Int.reduceLT,Int.reduceLE,Nat.reducePow,Nat.reduceLT,Int.reduceToNat,Nat.reduceLeDiff,↓aU7,↓aU8,↓aU9,↓aV0,aV6,cV0,cV1,cV2,cV3,cV4,cV5,cV6,cV7,cV8,cV9,cW0,cW1,aV4,bT5,aV5,↓aQ3,↓aQ4,↓aQ5,↓aQ6,↓aQ7,↓aQ8,↓aQ9,↓aR0,↓aR1,↓vY,↓vZ,↓wA,↓wB,↓aR2,↓aR3,↓aR4,wC,wD,wE,wF,cJ0,List.getElem?_cons_succ,List.getElem?_cons_zero,Option.getD_some,List.set_cons_zero,List.set_cons_succ,eM,bA4,List.length_cons,List.length_nil,Nat.reduceAdd,Nat.zero_add,true_and,and_true,and_self,Bool.not_false,Bool.not_true,Bool.false_eq_true,Bool.true_and,Bool.and_true,Bool.or_false,↓reduceIte,decide_eq_true_eq])
theorem oU{α:Type}(f:α->D){l:List α}{i:Int}(h0:0<=i)(h1:i < (l.length:Int)):∃ c,atI (l.map f) i=some (f c)/\c∈l:=by
 obtain⟨c,hc⟩:=aH2 (ys:=l) h0 h1
 exact⟨c,by rw[aH3,hc];rfl,aY0 hc⟩
theorem aY4{r:DT}{σ:Sg}{Q Q':Bool->Sg->Prop}(h:RT r σ Q)(w:∀ b τ,Q b τ->Q' b τ):RT r σ Q':=cG h fun x=>w x.1 x.2
theorem aY5{r:DE}{σ:Sg}{Q Q':Res->Sg->Prop}(h:RE r σ Q)(w:∀ b τ,Q b τ->Q' b τ):RE r σ Q':=cG h fun x=>w x.1 x.2
theorem oV{α:Type}{g:D->Sg->Option Sg}{ow:List Nat}{t:DT}{e:DE}{K:List D×Sg->Prop}(f:α->D)(u:α->D)(xs:List α){τ0:Sg}(τ:Sg)(e0:τ0=τ)
  (hs:∀ x∈xs,OK1 (g (u x) τ) fun τ1=>RT t τ1 fun b τ2=>b=true/\RE e τ2 fun r τ3=>r=.val (f x)/\bY ow τ3=τ) (k:K (xs.map f,τ)):OK1 (tL ow g t e (xs.map u) τ0) K:=by
 subst e0
 refine hW _ _ (fun i acc τ'=>acc=(xs.take i).map f/\τ'=τ0) ⟨rfl,rfl⟩ ?_ ?_
 ·rintro i d acc τ' hd ⟨rfl,rfl⟩
  rw[List.getElem?_map]at hd
  obtain⟨x,hx,rfl⟩:=Option.map_eq_some_iff.mp hd
  refine cG (hs x (List.mem_of_getElem? hx)) fun τ1 h1=>aY4 h1 fun b τ2 h2=>?_
  obtain⟨rfl,h2⟩:=h2
  rw[if_pos rfl]
  refine aY5 h2 fun r τ3 h3=>?_
  exact⟨_,h3.1,by rw[List.take_add_one,hx,List.map_append];rfl,h3.2⟩
 ·rintro acc τ' ⟨rfl,rfl⟩
  rw[List.length_map,List.take_length]
  exact k
theorem bH{α:Type}{g:D->Sg->Option Sg}{ow:List Nat}{t:DT}{e:DE}{K:List D×Sg->Prop}(p:α->Bool)(f:α->D)(u:α->D)(xs:List α){τ0:Sg}(τ:Sg)(e0:τ0=τ)
  (hs:∀ x∈xs,OK1 (g (u x) τ) fun τ1=>RT t τ1 fun b τ2=>b=p x/\bY ow τ2=τ/\RE e τ2 fun r τ3=>r=.val (f x)/\bY ow τ3=τ) (k:K ((xs.filter p).map f,τ)):OK1 (tL ow g t e (xs.map u) τ0) K:=by
 subst e0
 refine hW _ _ (fun i acc τ'=>acc=((xs.take i).filter p).map f/\τ'=τ0) ⟨rfl,rfl⟩ ?_ ?_
 ·rintro i d acc τ' hd ⟨rfl,rfl⟩
  rw[List.getElem?_map]at hd
  obtain⟨x,hx,rfl⟩:=Option.map_eq_some_iff.mp hd
  refine cG (hs x (List.mem_of_getElem? hx)) fun τ1 h1=>aY4 h1 fun b τ2 h2=>?_
  obtain⟨rfl,h2,h3⟩:=h2
  have e0:(xs.take (i+1)).filter p=(xs.take i).filter p++(if p x=true then[x]else[]):=by
   rw[List.take_add_one,hx,List.filter_append]
   cases h:p x<;>simp[h]
  by_cases hp:p x=true
  ·rw[if_pos hp]
   refine aY5 h3 fun r τ3 h4=>?_
   exact⟨_,h4.1,by rw[e0,if_pos hp,List.map_append];rfl,h4.2⟩
  ·rw[if_neg hp]
   exact⟨by rw[e0,if_neg hp,List.append_nil],h2⟩
 ·rintro acc τ' ⟨rfl,rfl⟩
  rw[List.length_map,List.take_length]
  exact k
theorem jD{α:Type}{f:α->D}{l:List α}{i:Nat}{d:D}(h:(l.map f)[i]? = some d):∃ y,l[i]? = some y/\d=f y:=by
 rw[List.getElem?_map]at h
 obtain⟨y,e,rfl⟩:=Option.map_eq_some_iff.mp h
 exact⟨y,e,rfl⟩
theorem tV{α:Type}{l:List α}{i:Nat}{y:α}(h:l[i]? = some y):l.take i++[y]=l.take (i+1):=by
 rw[List.take_add_one,h];rfl
theorem cK0{α:Type}(f:α->D)(p:α->Bool)(l:List α){ow:List Nat}{g:DG}{e:DE}{K:List D×Sg->Prop}{τ:Sg}
  (hs:∀ y∈l,OK1 (g (f y) τ) fun τ1=>RE e τ1 fun r τ3=>r=.val (.bl (p y))/\bY ow τ3=τ) (k:K ((l.map p).map D.bl,τ)):OK1 (tL ow g lK e (l.map f) τ) K:=by
 refine hW _ _ (fun i acc τ'=>acc=((l.take i).map p).map D.bl/\τ'=τ) ⟨rfl,rfl⟩ ?_ ?_
 ·rintro i d acc τ' hd ⟨rfl,rfl⟩
  obtain⟨y,hy,rfl⟩:=jD hd
  refine cG (hs y (List.mem_of_getElem? hy)) fun τ1 h=>?_
  rw[rC,if_pos rfl]
  refine cG h fun r hr=>⟨_,hr.1,?_,hr.2⟩
  rw[← tV hy,List.map_append,List.map_append];rfl
 ·rintro acc τ' ⟨rfl,rfl⟩
  rw[List.length_map,List.take_length]
  exact k
theorem bL7{α:Type}(p:α->Bool)(l:List α):(l.map p).all id=l.all p:=by rw[List.all_map];rfl
theorem qK{x y:Str}:decide (D.str x=D.str y)=decide (x=y):=by rw[Bool.eq_iff_iff,decide_eq_true_eq,decide_eq_true_eq,D.str.injEq]
theorem tW{neg:Bool}{x y:Str}(hx:As x)(hy:As y){K:Res->Prop}(k:K (.val (.bl (if neg=true then !decide (x=y)else decide (x=y))))):OK1 (eqD neg (.str x) (.str y)) K:=
 aX7 (n:=0) (m:=0) (.str hx) (.str hy) (by decide) (by decide) (by rw[qK];exact k)
theorem lR{α:Type}[DecidableEq α](f:α->D)(hf:∀ x y,f x=f y->x=y){x:α}{l:List α}:decide (f x∈l.map f)=decide (x∈l):=by
 rw[Bool.eq_iff_iff,decide_eq_true_eq,decide_eq_true_eq,List.mem_map]
 exact⟨fun⟨y,h1,h2⟩=>hf y x h2 ▸ h1,fun h=>⟨x,h,rfl⟩⟩
theorem rP(x y:Str)(h:D.str x=D.str y):x=y:=by injection h
theorem oks{n:Nat}{zs:List Str}(h:∀ z∈zs,As z):∀ d∈zs.map D.str,Ok n d:=fun d hd=>by
 obtain⟨z,hz,rfl⟩:=List.mem_map.mp hd
 exact .str (h z hz)
theorem aY6{neg:Bool}{z:Str}{zs:List Str}(hz:As z)(h:∀ z∈zs,As z){K:Res->Prop}(k:K (.val (.bl (if neg=true then !decide (z∈zs)else decide (z∈zs))))):OK1 (inD neg (.str z) (.lst (zs.map D.str))) K:=
 oO (n:=0) (m:=0) (.str hz) (oks h) (by decide) (by decide) (by rw[lR D.str rP];exact k)
theorem rQ{neg:Bool}{z:Str}{zs:List Str}(hz:As z)(h:∀ z∈zs,As z){K:Res->Prop}(k:K (.val (.bl (if neg=true then !decide (z∈zs)else decide (z∈zs))))):OK1 (inD neg (.str z) (.tup (zs.map D.str))) K:=
 bV0 (n:=0) (m:=0) (.str hz) (oks h) (by decide) (by decide) (by rw[lR D.str rP];exact k)
noncomputable def jE(qs:List (Str×List Str)):List Str:=qs.foldl (fun acc q=>acc++q.2.filter fun c=>!decide (c∈acc)) []
theorem aC2(qs:List (Str×List Str))(q:Str×List Str):jE (qs++[q])=jE qs++q.2.filter fun c=>!decide (c∈jE qs):=by
 unfold jE
 rw[List.foldl_append];rfl
noncomputable def Qn(qs:List (Str×List Str)):Prop:=qs.length<=100/\∀ q∈qs,Tx q.1/\q.2.length<=100/\∀ z∈q.2,Tx z
theorem oW{qs:List (Str×List Str)}{z:Str}(h:z∈jE qs):∃ q∈qs,z∈q.2:=by
 have key:∀ (l:List (Str×List Str)) (acc:List Str),z∈l.foldl (fun acc q=>acc++q.2.filter fun c=>!decide (c∈acc)) acc->z∈acc\/∃ q∈l,z∈q.2:=by
  intro l
  induction l with
  | nil=>intro acc h;exact .inl h
  | cons q r ih=>
    intro acc h
    rcases ih _ h with h | ⟨q',h1,h2⟩
    ·rcases List.mem_append.mp h with h | h
     ·exact .inl h
     ·exact .inr ⟨q,List.mem_cons_self,(List.mem_filter.mp h).1⟩
    ·exact .inr ⟨q',List.mem_cons_of_mem _ h1,h2⟩
 rcases key qs [] h with h | h
 ·cases h
 ·exact h
theorem aY7{qs:List (Str×List Str)}{n:Nat}(h:∀ q∈qs,q.2.length<=n):(jE qs).length<=qs.length*n:=by
 have key:∀ (l:List (Str×List Str)) (acc:List Str),(∀ q∈l,q.2.length<=n)->(l.foldl (fun acc q=>acc++q.2.filter fun c=>!decide (c∈acc)) acc).length<=acc.length+l.length*n:=by
  intro l
  induction l with
  | nil=>intro acc _;simp
  | cons q r ih=>
    intro acc h
    have h1:=ih (acc++q.2.filter fun c=>!decide (c∈acc)) fun x hx=>h x (List.mem_cons_of_mem _ hx)
    have h2:=h q List.mem_cons_self
    have h3:=List.length_filter_le (fun c=>!decide (c∈acc)) q.2
    rw[List.length_append]at h1
    rw[List.foldl_cons,List.length_cons,Nat.succ_mul]
    omega
 have:=key qs [] h
 rw[List.length_nil,Nat.zero_add]at this
 exact this
theorem lU{α:Type}{l:List α}{i:Nat}{y:α}(h:l[i]? = some y):l.take (i+1)=l.take i++[y]:=(tV h).symm
theorem xJ{qs:List (Str×List Str)}(hq:Qn qs){Q:Out->Prop}(k:∀ x2 x3 d2 d3,Q (.nx [some ⟨.val,qD qs⟩,some ⟨.own,.lst ((jE qs).map D.str)⟩,ov x2 d2,ov x3 d3,none])) :
  OK1 (bU0 (iK 2 (bS (dgN 2) (bS (dgN 3) gX))) (iQ (qX "list" 1 bD6 (aC (dE [4] (dIt (aH 3)) (dgN 4) (dJ (aV (inD true) (aH 4) (aH 1))) (dFz (aH 4))) aN))) (qs.map qP) [some ⟨.val,qD qs⟩,some ⟨.own,.lst []⟩,none,none,none]) Q:=by
 have sl:20000<=sizeLine:=by decide
 have hA:∀ i,∀ z∈jE (qs.take i),As z:=fun i z hz=>by
  obtain⟨q,h1,h2⟩:=oW hz
  exact((hq.2 q (List.mem_of_mem_take h1)).2.2 z h2).2
 have hL:∀ i,(jE (qs.take i)).length<=10000:=fun i=>by
  have h1:=aY7 (qs:=qs.take i) (n:=100) fun q h=>(hq.2 q (List.mem_of_mem_take h)).2.1
  have h2:=hq.1
  have h3:(qs.take i).length<=100:=by rw[List.length_take];omega
  have h4:=Nat.mul_le_mul_right 100 h3
  omega
 refine kA (fun i τ=>∃ x2 x3 d2 d3,τ=[_,some ⟨.own,.lst ((jE (qs.take i)).map D.str)⟩,ov x2 d2,ov x3 d3,none]) ⟨false,false,.non,.non,rfl⟩ ?_ ?_
 ·rintro i d τ hd ⟨x2,x3,d2,d3,rfl⟩
  obtain⟨q,hqi,rfl⟩:=jD hd
  have hqm:=hq.2 q (List.mem_of_getElem? hqi)
  walk_at "dx"
  refine⟨Nat.le_trans (by rw[List.length_map];exact hqm.2.1) (by decide),bH (fun c=>!decide (c∈jE (qs.take i))) D.str D.str q.2 [_,_,_,_,none] rfl (fun c hc=>?_) ?_⟩
  ·walk_at "dx"
   refine aY6 (hqm.2.2 c hc).2 (hA i) ?_
   walk_at "dx"
  ·walk_at "dx"
   refine⟨by
    rw[List.length_map,List.length_map]
    have h1:=hL i
    have h2:=List.length_filter_le (fun c=>!decide (c∈jE (qs.take i))) q.2
    have h3:=hqm.2.1
    omega,_,.inl rfl,true,true,.str q.1,.tup (q.2.map D.str),?_⟩
   rw[lU hqi,aC2,List.map_append]
   rfl
 ·rintro τ ⟨x2,x3,d2,d3,rfl⟩
  rw[List.length_map,List.take_length]
  exact k x2 x3 d2 d3
theorem aC3{qs:List (Str×List Str)}(hq:Qn qs){K:Res->List Sl->Prop}(k:K (.val (.tup ((jE qs).map D.str))) [⟨.val,qD qs⟩]):CK dU [⟨.val,qD qs⟩] K:=by
 unfold dU
 rw[fJ]
 show RS eP [_,none,none,none,none] _
 unfold eP
 walk_at "dx"
 refine⟨Nat.zero_le _,xJ hq fun x2 x3 d2 d3=>?_⟩
 walk_at "dx"
 exact k
theorem aY8{qs:List (Str×List Str)}{z:Str}:z∈jE qs↔∃ q∈qs,z∈q.2:=by
 refine⟨oW,fun⟨q,h1,h2⟩=>?_⟩
 have key:∀ (l:List (Str×List Str)) (acc:List Str),(z∈acc\/∃ q∈l,z∈q.2)->z∈l.foldl (fun acc q=>acc++q.2.filter fun c=>!decide (c∈acc)) acc:=by
  intro l
  induction l with
  | nil=>
    intro acc h
    rcases h with h | ⟨q,h,_⟩
    ·exact h
    ·cases h
  | cons q r ih=>
    intro acc h
    refine ih _ ?_
    by_cases ha:z∈acc
    ·exact .inl (List.mem_append_left _ ha)
    ·rcases h with h | ⟨q',h1,h2⟩
     ·exact absurd h ha
     ·rcases List.mem_cons.mp h1 with rfl | h1
      ·exact .inl (List.mem_append_right _ (List.mem_filter.mpr ⟨h2,by simp[ha]⟩))
      ·exact .inr ⟨q',h1,h2⟩
 exact key qs [] (.inr ⟨q,h1,h2⟩)
noncomputable def wo(qs:List (Str×List Str))(z:Str):List (Str×List Str):=qs.filter fun q=>!decide (q.1=z)
theorem zH{qs:List (Str×List Str)}{z:Str}{q:Str×List Str}(h:q∈wo qs z):q∈qs/\q.1≠z:=by
 have:=List.mem_filter.mp h
 exact⟨this.1,by simpa using this.2⟩
theorem Qn.wo{qs:List (Str×List Str)}(h:Qn qs)(z:Str):Qn (wo qs z):=⟨Nat.le_trans (List.length_filter_le _ _) h.1,fun q hq=>h.2 q (zH hq).1⟩
theorem qF{qs:List (Str×List Str)}{z:Str}(hq:Qn qs)(hz:As z){K:Res->List Sl->Prop}(k:K (.val (qD (wo qs z))) [⟨.val,qD qs⟩,⟨.val,.str z⟩]):CK eA [⟨.val,qD qs⟩,⟨.val,.str z⟩] K:=by
 have sl:1000<=sizeLine:=by decide
 have hl:=hq.1
 unfold eA
 rw[fJ]
 show RS hZ [_,_,none] _
 unfold hZ
 walk_at "dx"
 refine⟨by rw[List.length_map];omega,bH (fun q=>!decide (q.1=z)) qP qP qs [_,_,none] rfl (fun q h=>?_) ?_⟩
 ·walk_at "dx"
  refine tW (hq.2 q h).1.2 hz ?_
  walk_at "dx"
 ·walk_at "dx"
  exact k
theorem aC4{cs ss:List Str}{m:Md}(hm:m=.par\/m=.val)(hc:∀ z∈cs,As z)(hs:∀ z∈ss,As z)(hl:ss.length<=1000){K:Res->List Sl->Prop}(k:K (.val (.bl (ss.all fun c=>decide (c∈cs)))) [⟨.val,.tup (cs.map D.str)⟩,⟨m,.lst (ss.map D.str)⟩]) :
  CK gH [⟨.val,.tup (cs.map D.str)⟩,⟨m,.lst (ss.map D.str)⟩] K:=by
 have sl:1000<=sizeLine:=by decide
 unfold gH
 rw[fJ]
 show RS iA [_,_,none] _
 unfold iA
 rcases hm with rfl | rfl
 all_goals
  walk_at "dx"
  refine⟨by rw[List.length_map];omega,cK0 D.str (fun c=>decide (c∈cs)) ss (fun y hy=>?_) ?_⟩
  ·walk_at "dx"
   refine rQ (hs y hy) hc ?_
   walk_at "dx"
   try rfl
  ·walk_at "dx"
   rw[bL7]
   exact k
noncomputable abbrev oD:Option Str->D
 | none=>.non
 | some z=>.str z
noncomputable abbrev eD(p:Str×Option Str):D:=.tup [.str p.1,oD p.2]
theorem bL8:∀ x y:Option Str,oD x=oD y->x=y
 | none,none,_=>rfl
 | some x,some y,h=>by injection h with h;rw[h]
theorem cK1(p q:Str×Option Str)(h:eD p=eD q):p=q:=by
 injection h with h
 injection h with h1 h2
 injection h2 with h2
 exact Prod.ext (rP _ _ h1) (bL8 _ _ h2)
noncomputable def shr(cs:List Str)(o:List (Str×List Str)):List Str:=cs.filter fun c=>decide (c∈jE o)
noncomputable def aD0(aI:List (Str×List Str))(z:Str)(cs:List Str):List (Option Str):=
 if(wo aI z).length=0 then[none]else((wo aI z).filter fun o=>(shr cs (wo aI z)).all fun c=>decide (c∈o.2)).map fun o=>some o.1
theorem bF6{aI:List (Str×List Str)}{z:Str}{cs:List Str}:(aD0 aI z cs).length<=aI.length+1:=by
 unfold aD0
 split
 ·show 1<=_;omega
 ·rw[List.length_map]
  exact Nat.le_trans (List.length_filter_le _ _) (Nat.le_trans (List.length_filter_le _ _) (Nat.le_succ _))
theorem bF7{aI:List (Str×List Str)}{z:Str}{cs:List Str}{h:Option Str}(hh:h∈aD0 aI z cs):∀ x,h=some x->∃ q∈aI,q.1=x:=by
 intro x e
 unfold aD0 at hh
 split at hh
 ·rw[List.mem_singleton]at hh;rw[hh]at e;cases e
 ·obtain⟨q,hq,rfl⟩:=List.mem_map.mp hh
  cases e
  exact⟨q,(zH (List.mem_filter.mp hq).1).1,rfl⟩
theorem bV3{qs:List (Str×List Str)}(h:Qn qs):∀ z∈jE qs,As z:=fun z hz=>by
 obtain⟨q,h1,h2⟩:=oW hz
 exact((h.2 q h1).2.2 z h2).2
theorem aC5{aI:List (Str×List Str)}{z:Str}{cs:List Str}(hq:Qn aI)(hz:As z)(hc:∀ z∈cs,As z)(hl:cs.length<=100){K:Res->List Sl->Prop}
  (k:K (.own (.lst ((aD0 aI z cs).map oD))) [⟨.val,qD aI⟩,⟨.val,.str z⟩,⟨.val,.tup (cs.map D.str)⟩]):CK dW [⟨.val,qD aI⟩,⟨.val,.str z⟩,⟨.val,.tup (cs.map D.str)⟩] K:=by
 have sl:1000<=sizeLine:=by decide
 unfold dW
 rw[fJ]
 show RS eQ [_,_,_,none,none,none,none,none] _
 unfold eQ
 walk_at "dx"
 refine qF hq hz ?_
 have hw:=hq.wo z
 walk_at "dx"
 unfold aD0 at k
 split
 ·rename_i h0
  rw[if_pos (by rw[List.length_map]at h0;omega)]at k
  exact⟨by omega,k⟩
 ·rename_i h0
  rw[if_neg (by rw[List.length_map]at h0;omega)]at k
  have hs:∀ c∈shr cs (wo aI z),As c:=fun c h=>hc c (List.mem_filter.mp h).1
  have hsl:(shr cs (wo aI z)).length<=100:=Nat.le_trans (List.length_filter_le _ _) hl
  refine⟨by rw[List.length_map];omega,bH (fun c=>decide (c∈jE (wo aI z))) D.str D.str cs [_,_,_,_,none,none,none,none] rfl (fun c h=>?_) ?_⟩
  ·walk_at "dx"
   refine aC3 hw ?_
   walk_at "dx"
   refine rQ (hc c h) (bV3 hw) ?_
   walk_at "dx"
  ·walk_at "dx"
   have hwl:=hw.1
   refine⟨by rw[List.length_map];omega,bH (fun o=>(shr cs (wo aI z)).all fun c=>decide (c∈o.2)) (fun o=>.str o.1) qP (wo aI z) [_,_,_,_,some ⟨.own,.lst ((shr cs (wo aI z)).map D.str)⟩,none,none,none] rfl (fun q h=>?_) ?_⟩
   ·walk_at "dx"
    refine aC4 (.inl rfl) (fun c h'=>((hw.2 q h).2.2 c h').2) hs (by omega) ?_
    walk_at "dx"
   ·walk_at "dx"
    rw[List.map_map]at k
    exact k
noncomputable def bF8(aI:List (Str×List Str)):List (Str×Option Str):=aI.flatMap fun q=>(aD0 aI q.1 q.2).map fun h=>(q.1,h)
theorem aC6{aI:List (Str×List Str)}(hq:Qn aI){K:Res->List Sl->Prop}(k:K (.own (.lst ((bF8 aI).map eD))) [⟨.val,qD aI⟩]):CK gJ [⟨.val,qD aI⟩] K:=by
 have sl:20000<=sizeLine:=by decide
 unfold gJ
 rw[fJ]
 show RS iB [_,none,none,none,none] _
 unfold iB
 walk_at "dx"
 refine⟨Nat.zero_le _,kA (fun i τ=>∃ x2 x3 d2 d3,((aI.take i).flatMap fun q=>(aD0 aI q.1 q.2).map fun h=>(q.1,h)).length<=i*101/\τ=[_,some ⟨.own,.lst (((aI.take i).flatMap fun q=>(aD0 aI q.1 q.2).map fun h=>(q.1,h)).map eD)⟩,ov x2 d2,ov x3 d3,none]) ⟨false,false,.non,.non,Nat.zero_le _,rfl⟩ ?_ ?_⟩
 ·rintro i d τ hd ⟨x2,x3,d2,d3,hi,rfl⟩
  obtain⟨q,hqi,rfl⟩:=jD hd
  have hi1:i < aI.length:=(List.getElem?_eq_some_iff.mp hqi).1
  have hqm:=hq.2 q (List.mem_of_getElem? hqi)
  have hql:=hq.1
  have hh:=bF6 (aI:=aI) (z:=q.1) (cs:=q.2)
  walk_at "dx"
  refine aC5 hq hqm.1.2 (fun z h=>(hqm.2.2 z h).2) hqm.2.1 ?_
  walk_at "dx"
  refine⟨by rw[List.length_map];omega,oV (fun h=>eD (q.1,h)) oD (aD0 aI q.1 q.2) [_,_,_,_,none] rfl (fun h _=>?_) ?_⟩
  ·walk_at "dx"
   exact sl2
  ·walk_at "dx"
   refine⟨by simp only[List.length_map];omega,_,.inl rfl,true,true,.str q.1,.tup (q.2.map D.str),?_,?_⟩
   ·rw[lU hqi,List.flatMap_append,List.length_append,List.flatMap_singleton,List.length_map]
    omega
   ·rw[lU hqi,List.flatMap_append,List.flatMap_singleton,List.map_append,List.map_map]
    rfl
 ·rintro τ ⟨x2,x3,d2,d3,_,rfl⟩
  rw[List.length_map,List.take_length]
  walk_at "dx"
  exact k
noncomputable def Eg(p:Str×Option Str):Prop:=Tx p.1/\∀ z,p.2=some z->Tx z
theorem bF9{p:Str×Option Str}(h:Eg p):Ok 1 (eD p):=.tup fun d hd=>by
 simp only[List.mem_cons,List.not_mem_nil,or_false]at hd
 rcases hd with rfl | rfl
 ·exact .str h.1.2
 ·cases e:p.2 with
  | none=>exact .non
  | some z=>exact .str (h.2 z e).2
theorem bV4{aI:List (Str×List Str)}(hq:Qn aI){p:Str×Option Str}(h:p∈bF8 aI):Eg p:=by
 obtain⟨q,h1,h2⟩:=List.mem_flatMap.mp h
 obtain⟨o,h3,rfl⟩:=List.mem_map.mp h2
 refine⟨(hq.2 q h1).1,fun z e=>?_⟩
 obtain⟨q',h4,rfl⟩:=bF7 h3 z e
 exact(hq.2 q' h4).1
noncomputable def pF:List (Str×List Str)->List (Str×Option Str)->Bool
 | aI,[]=>decide (aI.length=0)
 | aI,p::r=>decide (p∈bF8 aI)&&pF (wo aI p.1) r
theorem tX{qs:List (Str×List Str)}{es:List (Str×Option Str)}(hq:Qn qs)(he:∀ p∈es,Eg p){K:Res->List Sl->Prop}(k:K (.val (.bl (pF qs es))) [⟨.val,qD qs⟩,⟨.par,.lst (es.map eD)⟩]) :
  CK dO [⟨.val,qD qs⟩,⟨.par,.lst (es.map eD)⟩] K:=by
 unfold dO
 rw[fJ]
 show RS fO [_,_,none,none,none] _
 unfold fO
 walk_at "dx"
 refine aW8 (fun i τ=>∃ aI x3 d3 x4 d4,Qn aI/\pF qs es=pF aI (es.drop i)/\τ=[some ⟨.val,qD qs⟩,some ⟨.lent,.lst (es.map eD)⟩,some ⟨.val,qD aI⟩,ov x3 d3,ov x4 d4]) ⟨qs,false,.non,false,.non,hq,rfl,rfl⟩ ?_ ?_
 ·rintro i d τ hd ⟨aI,x3,d3,x4,d4,hl,hs,rfl⟩
  obtain⟨p,hpi,rfl⟩:=jD hd
  have hp:=he p (List.mem_of_getElem? hpi)
  have ed:es.drop i=p::es.drop (i+1):=by
   obtain⟨h1,h2⟩:=List.getElem?_eq_some_iff.mp hpi
   rw[List.drop_eq_getElem_cons h1,h2]
  rw[ed]at hs
  walk_at "dx"
  refine⟨by decide,aC6 hl ?_⟩
  walk_at "dx"
  refine oO (n:=1) (m:=1) (bF9 hp) (fun d hd=>?_) (by decide) (by decide) ?_
  ·obtain⟨q,h1,rfl⟩:=List.mem_map.mp hd
   exact bF9 (bV4 hl h1)
  rw[lR eD cK1]
  walk_at "dx"
  split
  ·rename_i h1
   have h1':p∉bF8 aI:=by simpa using h1
   rw[hs,show pF aI (p::es.drop (i+1))=false by simp[pF,h1']]at k
   exact .inr (.inl ⟨_,_,rfl,k⟩)
  ·rename_i h1
   have h1':p∈bF8 aI:=by simpa using h1
   refine qF hl hp.1.2 ?_
   walk_at "dx"
   exact .inl ⟨_,.inl rfl,wo aI p.1,true,.str p.1,true,oD p.2,hl.wo _,by rw[hs];simp[pF,h1'],rfl⟩
 ·rintro τ ⟨aI,x3,d3,x4,d4,hl,hs,rfl⟩
  rw[List.length_map,List.drop_length]at hs
  walk_at "dx"
  rw[hs,show pF aI []=decide ((((aI.map qP).length:Nat):Int)=0) by rw[List.length_map];exact decide_eq_decide.mpr (by omega)]at k
  exact k
theorem cK2:∀ (l:List (Str×List Str)),bU1 (l.map qP)=some (l.map fun q=>(q.1,.tup (q.2.map D.str)))
 | []=>rfl
 | q::r=>by
   show(bU1 (r.map qP)).map _=_
   rw[cK2 r];rfl
theorem bV5{l:List (Str×List Str)}(hl:l.length < 4000)(hn:(l.map Prod.fst).Nodup){K:Res->Prop}(k:K (.own (.dic (l.map fun q=>.str q.1) (l.map fun q=>.tup (q.2.map D.str))))):OK1 (bE8 [.lst (l.map qP)]) K:=by
 show OK1 ((bU1 (l.map qP)).bind _) K
 rw[cK2]
 show OK1 (if _ then _ else none) K
 rw[if_pos ⟨by rw[List.length_map];exact hl,by rw[List.map_map];exact hn⟩,List.map_map,List.map_map]
 exact k
noncomputable def fQ(l:List (Str×List Str))(z:Str):List Str:=((l.find? fun q=>decide (q.1=z)).map Prod.snd).getD []
theorem bL9{z:Str}:∀ {l:List (Str×List Str)},(∃ q∈l,q.1=z)->wX (l.map fun q=>.str q.1) (l.map fun q=>.tup (q.2.map D.str)) z=some (.tup ((fQ l z).map D.str))
 | [],⟨q,h,_⟩=>nomatch h
 | p::r,⟨q,h,e⟩=>by
   show(if p.1=z then some (D.tup (p.2.map D.str))else wX (r.map fun q=>.str q.1) (r.map fun q=>.tup (q.2.map D.str)) z)=_
   by_cases hp:p.1=z
   ·rw[if_pos hp]
    unfold fQ
    rw[List.find?_cons_of_pos (by simpa using hp)];rfl
   ·rw[if_neg hp,bL9 ⟨q,by
     rcases List.mem_cons.mp h with rfl | h
     ·exact absurd e hp
     ·exact h,e⟩]
    unfold fQ
    rw[List.find?_cons_of_neg (by simpa using hp)]
theorem cK3{l:List (Str×List Str)}{z:Str}(h:∃ q∈l,q.1=z){K:Res->Prop}(k:K (.val (.tup ((fQ l z).map D.str)))):OK1 (cI1 (.dic (l.map fun q=>.str q.1) (l.map fun q=>.tup (q.2.map D.str))) (.str z)) K:=by
 show OK1 ((wX _ _ z).map Res.val) K
 rw[bL9 h]
 exact k
theorem qG{l:List (Str×List Str)}{z:Str}(h:∃ q∈l,q.1=z):∃ q∈l,q.1=z/\q.2=fQ l z:=by
 unfold fQ
 cases e:l.find? fun q=>decide (q.1=z)with
 | none=>
   obtain⟨q,h1,h2⟩:=h
   have:=List.find?_eq_none.mp e q h1
   exact absurd h2 (by simpa using this)
 | some q=>exact⟨q,List.mem_of_find?_eq_some e,by simpa using List.find?_some e,rfl⟩
noncomputable def wnt(cs:List Str)(o:List (Str×List Str)):List Str:=cs.filter fun c=>!(o.filter fun q=>decide (c∈q.2)).isEmpty
noncomputable def jF(aI:List (Str×List Str))(z:Str):List Str:=((wo aI z).filter fun o=>(wnt (fQ aI z) (wo aI z)).all fun c=>decide (c∈o.2)).map Prod.fst
theorem kB{aI:List (Str×List Str)}{z:Str}{m:Md}(hm:m=.par\/m=.lent)(hq:Qn aI)(hn:(aI.map Prod.fst).Nodup)(hz:∃ q∈aI,q.1=z){K:Res->List Sl->Prop}
  (k:K (.own (.lst ((jF aI z).map D.str))) [⟨m,.lst (aI.map qP)⟩,⟨.val,.str z⟩]):CK bI [⟨m,.lst (aI.map qP)⟩,⟨.val,.str z⟩] K:=by
 have sl:1000<=sizeLine:=by decide
 have hza:As z:=by obtain⟨q,h1,rfl⟩:=hz;exact(hq.2 q h1).1.2
 obtain⟨qz,hqz,eqz,ecs⟩:=qG hz
 have hca:∀ c∈fQ aI z,As c:=fun c hc=>((hq.2 qz hqz).2.2 c (ecs ▸ hc)).2
 have hcl:(fQ aI z).length<=100:=ecs ▸ (hq.2 qz hqz).2.1
 have hw:=hq.wo z
 have hwl:=hw.1
 have hwa:∀ c∈wnt (fQ aI z) (wo aI z),As c:=fun c h=>hca c (List.mem_filter.mp h).1
 have hwn:(wnt (fQ aI z) (wo aI z)).length<=100:=Nat.le_trans (List.length_filter_le _ _) hcl
 unfold bI
 rw[fJ]
 show RS dS [_,_,none,none,none,none,none,none] _
 unfold dS
 have hql:=hq.1
 rcases hm with rfl | rfl
 all_goals
  walk_at "dx"
  refine bV5 (by omega) hn ?_
  walk_at "dx"
  refine cK3 hz ?_
  walk_at "dx"
  refine⟨by rw[List.length_map];omega,bH (fun q=>!decide (q.1=z)) qP qP aI [_,_,_,none,none,none,none,none] rfl (fun q h=>?_) ?_⟩
  ·walk_at "dx"
   refine tW (hq.2 q h).1.2 hza ?_
   walk_at "dx"
   exact sl2
  ·walk_at "dx"
   refine⟨by rw[List.length_map];omega,bH (fun c=>!((wo aI z).filter fun q=>decide (c∈q.2)).isEmpty) D.str D.str (fQ aI z) [_,_,_,some ⟨.own,.lst ((wo aI z).map qP)⟩,none,none,none,none] rfl (fun c hc=>?_) ?_⟩
   ·walk_at "dx"
    refine⟨by rw[List.length_map];omega,bH (fun q=>decide (c∈q.2)) (fun _=>.int 1) qP (wo aI z) [_,_,_,_,none,none,none,_] rfl (fun q h=>?_) ?_⟩
    ·walk_at "dx"
     refine rQ (hca c hc) (fun x hx=>((hw.2 q h).2.2 x hx).2) ?_
     walk_at "dx"
    ·walk_at "dx"
     refine⟨Nat.zero_le _,oN (n:=0) (fun d hd=>?_) (by decide) ?_⟩
     ·obtain⟨_,_,rfl⟩:=List.mem_map.mp hd
      exact .int
     rw[List.isEmpty_map]
     walk_at "dx"
   ·walk_at "dx"
    refine⟨by rw[List.length_map];omega,bH (fun o=>(wnt (fQ aI z) (wo aI z)).all fun c=>decide (c∈o.2)) (fun o=>.str o.1) qP (wo aI z) [_,_,_,some ⟨.lent,.lst ((wo aI z).map qP)⟩,some ⟨.own,.lst ((wnt (fQ aI z) (wo aI z)).map D.str)⟩,none,none,none] rfl (fun q h=>?_) ?_⟩
    ·walk_at "dx"
     refine⟨by rw[List.length_map];omega,cK0 D.str (fun c=>decide (c∈q.2)) (wnt (fQ aI z) (wo aI z)) (fun y hy=>?_) ?_⟩
     ·walk_at "dx"
      refine rQ (hwa y hy) (fun x hx=>((hw.2 q h).2.2 x hx).2) ?_
      walk_at "dx"
      try rfl
     ·walk_at "dx"
      rw[bL7]
    ·walk_at "dx"
     unfold jF at k
     rw[List.map_map]at k
     exact k
noncomputable def bG0(aI:List (Str×List Str))(z:Str):Bool:=decide (z∈aI.map Prod.fst)
theorem mZ{aI:List (Str×List Str)}{z:Str}:bG0 aI z=true↔∃ q∈aI,q.1=z:=by
 unfold bG0
 rw[decide_eq_true_eq,List.mem_map]
noncomputable def lV(aI:List (Str×List Str))(p:Str×Option Str):Bool:=bG0 aI p.1&&(!(decide (aI.length=1)&&p.2.isSome) && !(decide (1 < aI.length) && !decide (p.2∈(jF aI p.1).map some)))
noncomputable def pG:List (Str×List Str)->List (Str×Option Str)->Bool
 | aI,[]=>aI.isEmpty
 | aI,p::r=>lV aI p&&pG (wo aI p.1) r
theorem tY(aI:List (Str×List Str))(z:Str):((wo aI z).map Prod.fst).Sublist (aI.map Prod.fst):=(List.filter_sublist).map _
theorem cQ8{n:Nat}{zs:List Str}(h:∀ z∈zs,As z):∀ d∈(zs.map some).map oD,Ok n d:=fun d hd=>by
 obtain⟨x,hx,rfl⟩:=List.mem_map.mp hd
 obtain⟨z,hz,rfl⟩:=List.mem_map.mp hx
 exact .str (h z hz)
theorem cK4{n:Nat}{h:Option Str}(hh:∀ z,h=some z->Tx z):Ok n (oD h):=by
 cases h with
 | none=>exact .non
 | some z=>exact .str (hh z rfl).2
theorem isN(h:Option Str):isD true (oD h) .non=some (.val (.bl h.isSome)):=by
 cases h with
 | none=>unfold isD;simp
 | some z=>unfold isD;simp
theorem nA{aI:List (Str×List Str)}{z:Str}(hq:Qn aI):∀ x∈jF aI z,Tx x:=fun x hx=>by
 obtain⟨q,h1,rfl⟩:=List.mem_map.mp hx
 exact(hq.2 q (zH (List.mem_filter.mp h1).1).1).1
theorem aY9{aI:List (Str×List Str)}{z:Str}:(jF aI z).length<=aI.length:=by
 unfold jF
 rw[List.length_map]
 exact Nat.le_trans (List.length_filter_le _ _) (List.length_filter_le _ _)
theorem aZ0{aI:List (Str×List Str)}{z:Str}{s0 s1 s2 s4:Option Sl}(hq:Qn aI)(hz:As z){K:List D×Sg->Prop}(k:K ((wo aI z).map qP,[s0,s1,s2,some ⟨.val,.str z⟩,s4,none])) :
  OK1 (tL [5] (dgN 5) (dJ (aV (eqD true) (aV ixD (aH 5) (dC (.int 0))) (aH 3))) (dFz (aH 5)) (aI.map qP) [s0,s1,s2,some ⟨.val,.str z⟩,s4,none]) K:=by
 refine bH (fun q:Str×List Str=>!decide (q.1=z)) qP qP aI [s0,s1,s2,some ⟨.val,.str z⟩,s4,none] rfl (fun q h=>?_) k
 walk_at "dx"
 refine tW (hq.2 q h).1.2 hz ?_
 walk_at "dx"
theorem bG1{qs:List (Str×List Str)}{es:List (Str×Option Str)}(hq:Qn qs)(hn:(qs.map Prod.fst).Nodup)(he:∀ p∈es,Eg p){K:Res->List Sl->Prop}(k:K (.val (.bl (pG qs es))) [⟨.val,qD qs⟩,⟨.val,.lst (es.map eD)⟩]) :
  CK dN [⟨.val,qD qs⟩,⟨.val,.lst (es.map eD)⟩] K:=by
 have sl:1000<=sizeLine:=by decide
 unfold dN
 rw[fJ]
 show RS fN [_,_,none,none,none,none] _
 unfold fN
 walk_at "dx"
 refine aW8 (fun i τ=>∃ aI x3 d3 x4 d4,Qn aI/\(aI.map Prod.fst).Nodup/\pG qs es=pG aI (es.drop i)/\τ=[some ⟨.val,qD qs⟩,some ⟨.val,.lst (es.map eD)⟩,some ⟨.own,.lst (aI.map qP)⟩,ov x3 d3,ov x4 d4,none]) ⟨qs,false,.non,false,.non,hq,hn,rfl,rfl⟩ ?_ ?_
 ·rintro i d τ hd ⟨aI,x3,d3,x4,d4,hl,hnl,hs,rfl⟩
  obtain⟨p,hpi,rfl⟩:=jD hd
  have hp:=he p (List.mem_of_getElem? hpi)
  have hll:=hl.1
  have ed:es.drop i=p::es.drop (i+1):=by
   obtain⟨h1,h2⟩:=List.getElem?_eq_some_iff.mp hpi
   rw[List.drop_eq_getElem_cons h1,h2]
  rw[ed]at hs
  have hs':pG qs es=(lV aI p&&pG (wo aI p.1) (es.drop (i+1))):=hs
  have bad:lV aI p=false->K (.val (.bl false)) [⟨.val,qD qs⟩,⟨.val,.lst (es.map eD)⟩]:=fun h=>by
   rw[hs',h,Bool.false_and]at k
   exact k
  have lm:(aI.map qP).length=aI.length:=List.length_map _
  walk_at "dx"
  refine⟨by rw[List.length_map];omega,oV (fun q=>.str q.1) qP aI [_,_,_,_,_,none] rfl (fun q h=>?_) ?_⟩
  ·walk_at "dx"
  walk_at "dx"
  rw[show aI.map (fun q=>D.str q.1)=(aI.map Prod.fst).map D.str by rw[List.map_map];rfl]
  refine aY6 hp.1.2 (fun z hz=>?_) ?_
  ·obtain⟨q,h1,rfl⟩:=List.mem_map.mp hz
   exact(hl.2 q h1).1.2
  walk_at "dx"
  split
  ·rename_i h1
   refine .inr (.inl ⟨_,_,rfl,bad ?_⟩)
   have h1':bG0 aI p.1=false:=by unfold bG0;simpa using h1
   unfold lV
   rw[h1',Bool.false_and]
  ·rename_i h1
   have h1':bG0 aI p.1=true:=by unfold bG0;simpa using h1
   have hpos:0 < aI.length:=by
    obtain⟨q,h,_⟩:=mZ.mp h1'
    exact List.length_pos_of_mem h
   have fin:lV aI p=true->pG qs es=pG (wo aI p.1) (es.drop (i+1)):=fun h=>by rw[hs',h,Bool.true_and]
   rw[lm]
   split
   ·rename_i h2
    rw[isN]
    walk_at "dx"
    split
    ·rename_i h3
     refine .inr (.inl ⟨_,_,rfl,bad ?_⟩)
     unfold lV
     rw[decide_eq_true (by omega:aI.length=1),h3,Bool.and_self,Bool.not_true,Bool.false_and,Bool.and_false]
    ·rename_i h3
     rw[if_neg (by omega)]
     refine⟨by omega,aZ0 hl hp.1.2 ?_⟩
     walk_at "dx"
     refine .inl ⟨_,.inl rfl,wo aI p.1,true,.str p.1,true,oD p.2,hl.wo _,hnl.sublist (tY _ _),fin ?_,rfl⟩
     unfold lV
     rw[h1',Bool.eq_false_iff.mpr h3,decide_eq_false (by omega:¬ 1 < aI.length)]
     simp
   ·rename_i h2
    rw[if_pos (by omega)]
    refine kB (.inl rfl) hl hnl (mZ.mp h1') ?_
    walk_at "dx"
    rw[show(jF aI p.1).map D.str=((jF aI p.1).map some).map oD by rw[List.map_map];rfl]
    refine oO (n:=0) (m:=0) (cK4 hp.2) (cQ8 fun z hz=>(nA hl z hz).2) (by decide) (by decide) ?_
    rw[lR oD bL8]
    walk_at "dx"
    split
    ·rename_i h3
     refine .inr (.inl ⟨_,_,rfl,bad ?_⟩)
     have h3':p.2∉(jF aI p.1).map some:=by simpa using h3
     unfold lV
     rw[decide_eq_true (by omega:1 < aI.length),decide_eq_false h3',Bool.not_false,Bool.and_self,Bool.not_true,Bool.and_false,Bool.and_false]
    ·rename_i h3
     refine⟨by omega,aZ0 hl hp.1.2 ?_⟩
     walk_at "dx"
     refine .inl ⟨_,.inl rfl,wo aI p.1,true,.str p.1,true,oD p.2,hl.wo _,hnl.sublist (tY _ _),fin ?_,rfl⟩
     have h3':p.2∈(jF aI p.1).map some:=by simpa using h3
     unfold lV
     rw[h1',decide_eq_false (by omega:¬ aI.length=1),decide_eq_true h3']
     simp
 ·rintro τ ⟨aI,x3,d3,x4,d4,hl,hnl,hs,rfl⟩
  rw[List.length_map,List.drop_length]at hs
  walk_at "dx"
  refine⟨Nat.zero_le _,oN (n:=2) (fun d hd=>?_) (by decide) ?_⟩
  ·obtain⟨q,h1,rfl⟩:=List.mem_map.mp hd
   refine .tup fun d hd=>?_
   simp only[List.mem_cons,List.not_mem_nil,or_false]at hd
   rcases hd with rfl | rfl
   ·exact .str (hl.2 q h1).1.2
   ·exact .tup (oks fun z hz=>((hl.2 q h1).2.2 z hz).2)
  rw[List.isEmpty_map]
  rw[hs]at k
  walk_at "dx"
  exact k
theorem bV6{z:Str}{r:List (Str×List Str)}(h:∀ q∈r,q.1≠z):wo r z=r:=List.filter_eq_self.mpr fun q hq=>by simpa using h q hq
theorem tZ{z:Str}:∀ {aI:List (Str×List Str)},(aI.map Prod.fst).Nodup->(∃ q∈aI,q.1=z)->(wo aI z).length+1=aI.length
 | [],_,⟨q,h,_⟩=>nomatch h
 | p::r,hn,⟨q,h,e⟩=>by
   rw[List.map_cons,List.nodup_cons]at hn
   by_cases hp:p.1=z
   ·have:wo (p::r) z=wo r z:=List.filter_cons_of_neg (by simpa using hp)
    rw[this,bV6 fun q hq hz=>hn.1 (by rw[hp,← hz];exact List.mem_map_of_mem hq),List.length_cons]
   ·have:wo (p::r) z=p::wo r z:=List.filter_cons_of_pos (by simpa using hp)
    rw[this,List.length_cons,List.length_cons,tZ hn.2 ⟨q,by
     rcases List.mem_cons.mp h with rfl | h
     ·exact absurd e hp
     ·exact h,e⟩]
theorem bV7(cs:List Str)(o:List (Str×List Str)):shr cs o=wnt cs o:=by
 unfold shr wnt
 congr 1
 funext c
 rw[Bool.eq_iff_iff,decide_eq_true_eq,aY8]
 simp only[Bool.not_eq_true',← Bool.not_eq_true,List.isEmpty_iff,List.filter_eq_nil_iff,decide_eq_true_eq]
 constructor
 ·rintro⟨q,h1,h2⟩ h
  exact h q h1 h2
 ·intro h
  exact Classical.byContradiction fun n=>h fun q h1 h2=>n ⟨q,h1,h2⟩
theorem cK5{aI:List (Str×List Str)}(hn:(aI.map Prod.fst).Nodup){p q:Str×List Str}(hp:p∈aI)(hq:q∈aI)(e:p.1=q.1):p=q:=by
 induction aI with
 | nil=>cases hp
 | cons a r ih=>
   rw[List.map_cons,List.nodup_cons]at hn
   rcases List.mem_cons.mp hp with rfl | hp'
   ·rcases List.mem_cons.mp hq with rfl | hq'
    ·rfl
    ·exact absurd (List.mem_map_of_mem (f:=Prod.fst) hq') (e ▸ hn.1)
   ·rcases List.mem_cons.mp hq with rfl | hq'
    ·exact absurd (List.mem_map_of_mem (f:=Prod.fst) hp') (e ▸ hn.1)
    ·exact ih hn.2 hp' hq'
theorem bV8{aI:List (Str×List Str)}(hn:(aI.map Prod.fst).Nodup)(p:Str×Option Str):decide (p∈bF8 aI)=lV aI p:=by
 obtain⟨z,h⟩:=p
 by_cases hN:∃ q∈aI,q.1=z
 ·obtain⟨q0,h1,h2,h3⟩:=qG hN
  have hl:=tZ hn hN
  have hb:bG0 aI z=true:=mZ.mpr hN
  have key:(z,h)∈bF8 aI↔h∈aD0 aI z (fQ aI z):=by
   unfold bF8
   rw[List.mem_flatMap]
   constructor
   ·rintro⟨q,g1,g2⟩
    obtain⟨h',g3,g4⟩:=List.mem_map.mp g2
    injection g4 with g4 g5
    subst g5
    have:q=q0:=cK5 hn g1 h1 (g4.trans h2.symm)
    rw[← h3,← this,← g4];exact g3
   ·intro g
    exact⟨q0,h1,List.mem_map.mpr ⟨h,by rw[h2,h3];exact g,by rw[h2]⟩⟩
  rw[Bool.eq_iff_iff,decide_eq_true_eq,key]
  unfold lV aD0
  rw[hb]
  by_cases h0:(wo aI z).length=0
  ·rw[if_pos h0,decide_eq_true (by omega:aI.length=1),decide_eq_false (by omega:¬ 1 < aI.length)]
   cases h<;>simp
  ·rw[if_neg h0,decide_eq_false (by omega:¬ aI.length=1),decide_eq_true (by omega:1 < aI.length),bV7]
   unfold jF
   rw[List.map_map]
   simp[Function.comp_def]
 ·have hb:bG0 aI z=false:=Bool.eq_false_iff.mpr fun z=>hN (mZ.mp z)
  unfold lV
  rw[hb,Bool.false_and]
  refine decide_eq_false fun g=>hN ?_
  obtain⟨q,g1,g2⟩:=List.mem_flatMap.mp g
  obtain⟨h',_,g4⟩:=List.mem_map.mp g2
  injection g4 with g4 _
  exact⟨q,g1,g4⟩
theorem aZ1:∀ {es:List (Str×Option Str)} {aI:List (Str×List Str)},(aI.map Prod.fst).Nodup->pF aI es=pG aI es
 | [],aI,_=>by
   show decide (aI.length=0)=aI.isEmpty
   rw[Bool.eq_iff_iff,decide_eq_true_eq,List.length_eq_zero_iff,List.isEmpty_iff]
 | p::r,aI,hn=>by
   show(decide (p∈bF8 aI)&&pF (wo aI p.1) r)=(lV aI p&&pG (wo aI p.1) r)
   rw[bV8 hn,aZ1 (es:=r) (hn.sublist (tY aI p.1))]
noncomputable def aZ2:DS:=bN (iQ (jV "list" 3 aA5 (aC (aC8 (aC (dFz (aH 5)) (aC (aV ixD (aH 6) (aX 2 aF (aC (aH 0) (aC (dCB iR (aC (aH 6) aN)) aN)))) aN))) aN)))
 (cC 2 (dE [8] (dIt (aH 2)) (dgN 8) (dJ (aV (eqD true) (aV ixD (aH 8) (dC (.int 0))) (aH 5))) (dFz (aH 8))))
noncomputable def aZ3:DS:=bN (cC 5 (aV ixD (aH 4) (aX 2 aF (aC (aH 0) (aC (dCB iR (aC (aH 4) aN)) aN)))))
 (bN (cC 6 (aV gD (aX 2 bI (aC (aH 2) (aC (aH 5) aN))) (aV cI4 (iI (aC (dC .non) aN)) (dCB bK6 (aC (aV (eqD false) (dCB iR (aC (aH 2) aN)) (dC (.int 1))) aN)))))
 (bN (jO (dJ (aV (eqD false) (aH 6) (iI aN))) (cC 6 (dE [9,7] (dIt (aH 2)) (iK 2 (bS (dgN 9) (bS (dgN 7) gX))) (dJ (aV (eqD true) (aH 9) (aH 5))) (dFz (aH 9)))) eL) aZ2))
noncomputable abbrev beS(a b:Int)(qs aI:List (Str×List Str))(found:List (Str×Option Str))(s4 s5 s6:Option Sl):Sg:=[some ⟨.par,.lst [.int a,.int b]⟩,some ⟨.val,qD qs⟩,some ⟨.own,.lst (aI.map qP)⟩,some ⟨.own,.lst (found.map eD)⟩,s4,s5,s6,none,none,none]
theorem bM0{a b:Int}{qs aI:List (Str×List Str)}{found:List (Str×Option Str)}{s4:Option Sl}{z:Str}{ks:List (Option Str)}(hq:Qn aI)(hz:Tx z)(hk:ks≠[])(hkl:ks.length<=1000)(hf:found.length<=1000){Q:Out->Prop}
  (k:∀ a' b' h,h∈ks->Q (.nx (beS a' b' qs (wo aI z) (found++[(z,h)]) s4 (some ⟨.val,.str z⟩) (some ⟨.own,.lst (ks.map oD)⟩)))):RS aZ2 (beS a b qs aI found s4 (some ⟨.val,.str z⟩) (some ⟨.own,.lst (ks.map oD)⟩)) Q:=by
 have sl:10000<=sizeLine:=by decide
 have hkp:=List.length_pos_iff.mpr hk
 have hql:=hq.1
 have lk:(ks.map oD).length=ks.length:=List.length_map _
 unfold aZ2 beS
 walk_at "dx"
 refine bR (by omega) (by omega) fun d a1 b1 d0 d1=>?_
 obtain⟨h,eh,hm⟩:=oU oD (l:=ks) (i:=d) d0 (by omega)
 walk_at "dx"
 rw[eh]
 walk_at "dx"
 refine⟨by omega,by rw[List.length_map];omega,by rw[List.length_map];omega,bH (fun q:Str×List Str=>!decide (q.1=z)) qP qP aI [_,_,_,_,_,_,_,none,none,none] rfl (fun q h=>?_) ?_⟩
 ·walk_at "dx"
  refine tW (hq.2 q h).1.2 hz.2 ?_
  walk_at "dx"
 ·walk_at "dx"
  have:=k a1 b1 h hm
  unfold beS at this
  rw[List.map_append]at this
  exact this
theorem bM1{a b:Int}{qs aI:List (Str×List Str)}{found:List (Str×Option Str)}{S:List Str}{x5:Bool}{d5:D}{x6:Option (Bool×D)}(hq:Qn aI)(hn:(aI.map Prod.fst).Nodup)(hS:S≠[])(hSl:S.length<=1000)(hSm:∀ z∈S,∃ q∈aI,q.1=z)(hf:found.length<=1000){Q:Out->Prop}
  (k:∀ a' b' z h d6,(∃ q∈aI,q.1=z)->Eg (z,h)->Q (.nx (beS a' b' qs (wo aI z) (found++[(z,h)]) (some ⟨.own,.lst (S.map D.str)⟩) (some ⟨.val,.str z⟩) (some ⟨.own,d6⟩)))):RS aZ3 (beS a b qs aI found (some ⟨.own,.lst (S.map D.str)⟩) (ov x5 d5) (fo x6)) Q:=by
 have sl:10000<=sizeLine:=by decide
 have hSp:=List.length_pos_iff.mpr hS
 have hql:=hq.1
 have lS:(S.map D.str).length=S.length:=List.length_map _
 unfold aZ3 beS
 walk_at "dx"
 refine bR (by omega) (by omega) fun d a1 b1 d0 d1=>?_
 obtain⟨z,ez,hm⟩:=oU D.str (l:=S) (i:=d) d0 (by omega)
 have hzq:=hSm z hm
 have hz:Tx z:=by obtain⟨q,h1,rfl⟩:=hzq;exact(hq.2 q h1).1
 have hwl:=tZ hn hzq
 walk_at "dx"
 rw[ez]
 walk_at "dx"
 refine kB (.inl rfl) hq hn hzq ?_
 walk_at "dx"
 have hL:=aY9 (aI:=aI) (z:=z)
 have lm:(aI.map qP).length=aI.length:=List.length_map _
 obtain⟨ks,ek,hks,hkl,hk1⟩:∃ ks:List (Option Str),(jF aI z).map D.str++(List.replicate (if(((aI.map qP).length:Nat):Int)=1 then(1:Int)else 0).toNat [D.non]).flatten=ks.map oD/\(∀ h∈ks,∀ x,h=some x->Tx x)/\ks.length<=101/\(aI.length=1->ks≠[]):=by
  by_cases h1:(((aI.map qP).length:Nat):Int)=1
  ·rw[if_pos h1]
   refine⟨(jF aI z).map some++[none],by rw[List.map_append,List.map_map];rfl,fun h hh x e=>?_,by rw[List.length_append,List.length_map];simp only[List.length_cons,List.length_nil];omega,fun _=>by simp⟩
   subst e
   rcases List.mem_append.mp hh with h | h
   ·obtain⟨y,hy,e⟩:=List.mem_map.mp h
    injection e with e
    subst e
    exact nA hq y hy
   ·simp at h
  ·rw[if_neg h1]
   refine⟨(jF aI z).map some,by rw[List.map_map];simp,fun h hh x e=>?_,by rw[List.length_map];omega,fun h=>absurd (by omega) h1⟩
   subst e
   obtain⟨y,hy,e⟩:=List.mem_map.mp hh
   injection e with e
   subst e
   exact nA hq y hy
 have ek2:=congrArg List.length ek
 rw[List.length_append,List.length_map]at ek2
 rw[ek]
 refine⟨by omega,by split<;>omega,by rw[← List.length_append,ek,List.length_map];omega,Nat.zero_le _,oN (n:=0) (fun d hd=>?_) (by decide) ?_⟩
 ·obtain⟨h,hh,rfl⟩:=List.mem_map.mp hd
  exact cK4 (hks h hh)
 rw[List.isEmpty_map]
 walk_at "dx"
 split
 ·rename_i h0
  refine⟨by omega,bH (fun q:Str×List Str=>!decide (q.1=z)) (fun q=>.str q.1) qP aI [_,_,some ⟨.lent,.lst (aI.map qP)⟩,_,_,_,_,none,none,none] rfl (fun q h=>?_) ?_⟩
  ·walk_at "dx"
   refine tW (hq.2 q h).1.2 hz.2 ?_
   walk_at "dx"
  ·walk_at "dx"
   have h1:aI.length≠1:=fun h=>hk1 h (List.isEmpty_iff.mp h0)
   have hw:wo aI z≠[]:=fun h=>by rw[h,List.length_nil]at hwl;omega
   rw[show(aI.filter fun q=>!decide (q.1=z)).map (fun q=>D.str q.1)=((wo aI z).map fun q=>some q.1).map oD by rw[List.map_map];rfl]
   refine bM0 hq hz (fun e=>hw (List.map_eq_nil_iff.mp e)) (by rw[List.length_map];omega) hf fun a' b' h hh=>?_
   obtain⟨q,g1,rfl⟩:=List.mem_map.mp hh
   exact k _ _ z _ _ hzq ⟨hz,fun x e=>by cases e;exact(hq.2 q (zH g1).1).1⟩
 ·rename_i h0
  exact bM0 hq hz (fun e=>h0 (by rw[e];rfl)) (by omega) hf fun a' b' h hh=>k _ _ z _ _ hzq ⟨hz,hks h hh⟩
theorem bG2{a b:Int}{qs:List (Str×List Str)}(hq:Qn qs)(hn:(qs.map Prod.fst).Nodup){K:Res->List Sl->Prop}(k:∀ (es:List (Str×Option Str)) a' b',es.length=qs.length->(∀ p∈es,Eg p)->K (.own (.lst (es.map eD))) [⟨.par,.lst [.int a',.int b']⟩,⟨.val,qD qs⟩]) :
  CK dL [⟨.par,.lst [.int a,.int b]⟩,⟨.val,qD qs⟩] K:=by
 have sl:10000<=sizeLine:=by decide
 have hql:=hq.1
 unfold dL
 rw[fJ]
 show RS fL [_,_,none,none,none,none,none,none,none,none] _
 rw[show fL=bN (cC 2 (dCB lO (aC (aH 1) aN))) (bN (cC 3 (iI aN)) (bN (pP (dJ (aV gtI (dCB iR (aC (aH 2) aN)) (dC (.int 0))))
  (bN (cC 4 (dE [5,7] (dIt (aH 2)) (iK 2 (bS (dgN 5) (bS (dgN 7) gX))) (dOr (dJ (aV (eqD false) (dCB iR (aC (aH 2) aN)) (dC (.int 1)))) (dJ (aV (eqD true) (aX 2 bI (aC (aH 2) (aC (aH 5) aN))) (iI aN)))) (dFz (aH 5))))
  (bN (jO (dJ (aV (eqD false) (aH 4) (iI aN))) (cC 4 (iI (aC (aV ixD (aV ixD (aH 2) (dC (.int 0))) (dC (.int 0))) aN))) eL) aZ3))) (gU (aH 3))))from rfl]
 walk_at "dx"
 refine⟨Nat.zero_le _,pZ (fun m τ=>∃ a' b' aI found x4 x5 d5 x6,m=aI.length/\Qn aI/\(aI.map Prod.fst).Nodup/\found.length+aI.length=qs.length/\(∀ p∈found,Eg p)/\τ=beS a' b' qs aI found (fo x4) (ov x5 d5) (fo x6)) qs.length (by omega) ⟨a,b,qs,[],none,false,.non,none,rfl,hq,hn,by simp,by simp,rfl⟩ ?_⟩
 rintro m τ ⟨a',b',aI,found,x4,x5,d5,x6,rfl,hl,hnl,hfl,hfe,rfl⟩
 have hll:=hl.1
 have lm:(aI.map qP).length=aI.length:=List.length_map _
 unfold beS
 walk_at "dx"
 split
 ·rename_i hpos
  refine⟨by omega,bH (fun q=>decide (aI.length=1) || !(jF aI q.1).isEmpty) (fun q=>.str q.1) qP aI [_,_,some ⟨.lent,.lst (aI.map qP)⟩,_,_,none,_,none,none,none] rfl (fun q h=>?_) ?_⟩
  ·walk_at "dx"
   rw[lm]
   split
   ·rename_i h1
    rw[decide_eq_true (by omega:aI.length=1)]
    rfl
   ·rename_i h1
    rw[decide_eq_false (by omega:¬ aI.length=1)]
    refine kB (.inr rfl) hl hnl ⟨q,h,rfl⟩ ?_
    walk_at "dx"
    refine⟨Nat.zero_le _,oN (n:=0) (oks fun z hz=>(nA hl z hz).2) (by decide) ?_⟩
    rw[List.isEmpty_map]
    walk_at "dx"
    rfl
  ·walk_at "dx"
   obtain⟨S,eS,hSl,hSm⟩:∃ S:List Str,(aI.filter fun q=>decide (aI.length=1) || !(jF aI q.1).isEmpty).map (fun q=>D.str q.1)=S.map D.str/\S.length<=100/\∀ z∈S,∃ q∈aI,q.1=z:=by
    refine⟨(aI.filter fun q=>decide (aI.length=1) || !(jF aI q.1).isEmpty).map Prod.fst,by rw[List.map_map];rfl,by rw[List.length_map];exact Nat.le_trans (List.length_filter_le _ _) hll,fun z hz=>?_⟩
    obtain⟨q,h1,h2⟩:=List.mem_map.mp hz
    exact⟨q,(List.mem_filter.mp h1).1,h2⟩
   rw[eS]
   refine⟨Nat.zero_le _,oN (n:=0) (oks fun z hz=>?_) (by decide) ?_⟩
   ·obtain⟨q,h1,rfl⟩:=hSm z hz
    exact(hl.2 q h1).1.2
   rw[List.isEmpty_map]
   walk_at "dx"
   have eg:∀ z h,Eg (z,h)->∀ p∈found++[(z,h)],Eg p:=fun z h e p hp=>by
    rcases List.mem_append.mp hp with hp | hp
    ·exact hfe p hp
    ·rw[List.mem_singleton.mp hp];exact e
   split
   ·obtain⟨q0,r0,e0⟩:∃ q0 r0,aI=q0::r0:=by
     cases aI with
     | nil=>rw[lm]at hpos;exact absurd hpos (by simp)
     | cons q r=>exact⟨q,r,rfl⟩
    rw[show atI (aI.map qP) 0=some (qP q0) by rw[e0];exact cU6]
    walk_at "dx"
    refine⟨by omega,bM1 (S:=[q0.1]) hl hnl (by simp) (by simp) (fun z hz=>⟨q0,by rw[e0];exact List.mem_cons_self,(List.mem_singleton.mp hz).symm⟩) (by omega) fun a2 b2 z h d6 hz he=>?_⟩
    have hw:=tZ hnl hz
    exact .inl ⟨_,(wo aI z).length,.inl rfl,by omega,a2,b2,wo aI z,found++[(z,h)],some (true,.lst ([q0.1].map D.str)),true,.str z,some (true,d6),rfl,hl.wo z,hnl.sublist (tY aI z),by rw[List.length_append,List.length_singleton];omega,eg z h he,rfl⟩
   ·rename_i h0
    refine bM1 (S:=S) hl hnl (fun e=>h0 (by rw[e];rfl)) (by omega) hSm (by omega) fun a2 b2 z h d6 hz he=>?_
    have hw:=tZ hnl hz
    exact .inl ⟨_,(wo aI z).length,.inl rfl,by omega,a2,b2,wo aI z,found++[(z,h)],some (true,.lst (S.map D.str)),true,.str z,some (true,d6),rfl,hl.wo z,hnl.sublist (tY aI z),by rw[List.length_append,List.length_singleton];omega,eg z h he,rfl⟩
 ·rename_i hpos
  have:aI=[]:=List.eq_nil_of_length_eq_zero (by omega)
  subst this
  exact k found a' b' (by simpa using hfl) hfe
theorem bV9(es:List (Str×Option Str)){n:Int}(h:0<=n):sV (es.map eD) none (some n)=(es.take n.toNat).map eD:=by rw[oQ _ h,List.map_take]
theorem uA(es:List (Str×Option Str)){n:Int}(h:0<=n):sV (es.map eD) (some n) none=(es.drop n.toNat).map eD:=by rw[bF3 _ h,List.map_drop]
theorem bM2(es:List (Str×Option Str))(j:Nat)(p:Str×Option Str):(es.map eD).set j (eD p)=(es.set j p).map eD:=by rw[List.map_set]
theorem bG3{n:Nat}{k:Int}(h0:0<=k)(h1:k < n):ixN n k=some k.toNat:=by
 unfold ixN
 rw[if_pos h0,if_pos (by omega)]
theorem uB{a b:Int}{qs:List (Str×List Str)}{es:List (Str×Option Str)}{m:Md}(hm:m=.par\/m=.val)(hq:Qn qs)(he:∀ p∈es,Eg p)(h0:es≠[])(hl:es.length<=1000){K:Res->List Sl->Prop}
  (k:∀ (es':List (Str×Option Str)) a' b',es'.length<=es.length+1->(∀ p∈es',Eg p)->K (.own (.lst (es'.map eD))) [⟨.par,.lst [.int a',.int b']⟩,⟨.val,qD qs⟩,⟨m,.lst (es.map eD)⟩]) :
  CK cB [⟨.par,.lst [.int a,.int b]⟩,⟨.val,qD qs⟩,⟨m,.lst (es.map eD)⟩] K:=by
 have sl:10000<=sizeLine:=by decide
 have hql:=hq.1
 have hp:=List.length_pos_iff.mpr h0
 have le:(es.map eD).length=es.length:=List.length_map _
 have tz:Tx (Str.ofString "zzz"):=by unfold Tx;decide
 unfold cB
 rw[fJ]
 show RS eO [_,_,_,none,none,none,none,none,none,none,none] _
 unfold eO
 rcases hm with rfl | rfl
 all_goals
  walk_at "dx"
  refine⟨by rw[List.length_map];omega,oV (fun q=>.str q.1) qP qs [_,_,_,none,none,none,none,none,none,none,none] rfl (fun q _=>?_) ?_⟩
  ·walk_at "dx"
  walk_at "dx"
  obtain⟨ns,en,hns,hnl,hnm⟩:∃ ns:List (Option Str),qs.map (fun q=>D.str q.1)++[D.str (Str.ofString "zzz"),D.non]=ns.map oD/\(∀ h∈ns,∀ x,h=some x->Tx x)/\ns.length=qs.length+2/\∀ (i:Int),0<=i->i < (ns.length:Int)-1->∃ x,atI (ns.map oD) i=some (.str x)/\Tx x:=by
   have hx:∀ x∈(qs.map Prod.fst)++[Str.ofString "zzz"],Tx x:=fun x hx=>by
    rcases List.mem_append.mp hx with h | h
    ·obtain⟨q,h1,rfl⟩:=List.mem_map.mp h
     exact(hq.2 q h1).1
    ·rw[List.mem_singleton.mp h];exact tz
   refine⟨((qs.map Prod.fst)++[Str.ofString "zzz"]).map some++[none],?_,fun h hh x e=>?_,by simp,fun i i0 i1=>?_⟩
   ·simp only[List.map_append,List.map_map,List.append_assoc];rfl
   ·subst e
    rcases List.mem_append.mp hh with h | h
    ·obtain⟨y,hy,e⟩:=List.mem_map.mp h
     injection e with e
     exact e ▸ hx y hy
    ·simp at h
   ·obtain⟨j,rfl⟩:=Int.eq_ofNat_of_zero_le i0
    simp only[List.length_append,List.length_map,List.length_cons,List.length_nil]at i1
    have hj:j < ((qs.map Prod.fst)++[Str.ofString "zzz"]).length:=by simp only[List.length_append,List.length_map,List.length_cons,List.length_nil];omega
    refine⟨((qs.map Prod.fst)++[Str.ofString "zzz"])[j],?_,hx _ (List.getElem_mem hj)⟩
    unfold atI
    rw[bG3 (by omega) (by simp only[List.length_append,List.length_map,List.length_cons,List.length_nil];omega)]
    show(List.map oD _)[(j:Int).toNat]? = _
    rw[Int.toNat_natCast,List.getElem?_map,List.getElem?_append_left (by simpa using hj),List.getElem?_map,List.getElem?_eq_getElem hj]
    rfl
  rw[en]
  have ln:(ns.map oD).length=ns.length:=List.length_map _
  refine⟨by omega,by rw[List.length_map];omega,bR (by omega) (by omega) fun n a1 b1 n0 n1=>?_⟩
  walk_at "dx"
  refine bR (by omega) (by omega) fun o a2 b2 o0 o1=>?_
  walk_at "dx"
  refine bR (by omega) (by omega) fun w a3 b3 w0 w1=>?_
  obtain⟨p,ep,hpm⟩:=oU eD (l:=es) (i:=n) n0 (by omega)
  obtain⟨p2,ep2,hpm2⟩:=oU eD (l:=es) (i:=o) o0 (by omega)
  walk_at "dx"
  rw[ep]
  walk_at "dx"
  have hpe:=he p hpm
  have eT:=bV9 es n0
  have eF:=uA es n0
  have eG:=uA es (n:=n+1) (by omega)
  have cat:∀ x:List (Str×Option Str),(∀ p∈x,Eg p)->∀ c:Int,∀ p∈es.take n.toNat++x++es.drop c.toNat,Eg p:=fun x hx c p hp=>by
   rcases List.mem_append.mp hp with h | h
   ·rcases List.mem_append.mp h with h | h
    ·exact he p (List.mem_of_mem_take h)
    ·exact hx p h
   ·exact he p (List.mem_of_mem_drop h)
  have fl:∀ (x:List (Str×Option Str)) (c:Int),x.length<=1->n<=c->(es.take n.toNat++x++es.drop c.toNat).length<=es.length+1:=fun x c hx hc=>by
   rw[List.length_append,List.length_append,List.length_take,List.length_drop];omega
  have lT:((es.take n.toNat).map eD).length<=1000:=by rw[List.length_map,List.length_take];omega
  have lF:((es.drop n.toNat).map eD).length<=1000:=by rw[List.length_map,List.length_drop];omega
  have lG:((es.drop (n+1).toNat).map eD).length<=1000:=by rw[List.length_map,List.length_drop];omega
  have fin:∀ (x:List (Str×Option Str)) (c:Int) a' b',(∀ p∈x,Eg p)->x.length<=1->n<=c->K (.own (.lst ((es.take n.toNat).map eD++x.map eD++(es.drop c.toNat).map eD))) [⟨.par,.lst [.int a',.int b']⟩,⟨.val,qD qs⟩,⟨_,.lst (es.map eD)⟩]:=fun x c a' b' h1 h2 h3=>by
   have:=k _ a' b' (fl x c h2 h3) (cat x h1 c)
   rw[List.map_append,List.map_append]at this
   exact this
  split
  ·rw[eT,eG]
   have:=fin [] (n+1) a3 b3 (fun _ h=>absurd h List.not_mem_nil) (by simp) (by omega)
   rw[List.map_nil,List.append_nil]at this
   exact⟨by omega,this⟩
  ·split
   ·rw[ep2]
    walk_at "dx"
    rw[ep]
    walk_at "dx"
    rw[le,bG3 n0 (by omega)]
    walk_at "dx"
    rw[List.length_set,le,bG3 o0 (by omega)]
    walk_at "dx"
    rw[bM2,bM2]
    refine⟨by omega,k _ _ _ (by rw[List.length_set,List.length_set];omega) fun p' hp'=>?_⟩
    rcases List.mem_or_eq_of_mem_set hp' with h | h
    ·rcases List.mem_or_eq_of_mem_set h with h | h
     ·exact he p' h
     ·exact h ▸ he p2 hpm2
    ·exact h ▸ hpe
   ·split
    ·rw[eT,eF,ep2]
     walk_at "dx"
     refine⟨by omega,?_,?_,fin [p2] n a3 b3 (fun p' h=>by rw[List.mem_singleton.mp h];exact he p2 hpm2) (by simp) (by omega)⟩
     ·omega
     ·rw[List.length_append];simp only[List.length_cons,List.length_nil];omega
    ·split
     ·rw[ln]
      refine bR (by omega) (by omega) fun j a4 b4 j0 j1=>?_
      obtain⟨x,ex,hx⟩:=hnm j j0 (by omega)
      walk_at "dx"
      rw[ex]
      walk_at "dx"
      rw[eT,eG]
      refine⟨by omega,by omega,?_,?_,fin [(x,p.2)] (n+1) a4 b4 (fun p' h=>by rw[List.mem_singleton.mp h];exact⟨hx,hpe.2⟩) (by simp) (by omega)⟩
      ·omega
      ·rw[List.length_append];simp only[List.length_cons,List.length_nil];omega
     ·refine bR (by omega) (by omega) fun j a4 b4 j0 j1=>?_
      obtain⟨x,ex,hx⟩:=oU oD (l:=ns) (i:=j) j0 (by omega)
      walk_at "dx"
      rw[ex]
      walk_at "dx"
      rw[eT,eG]
      refine⟨by omega,by omega,?_,?_,fin [(p.1,x)] (n+1) a4 b4 (fun p' h=>by rw[List.mem_singleton.mp h];exact⟨hpe.1,hns x hx⟩) (by simp) (by omega)⟩
      ·omega
      ·rw[List.length_append];simp only[List.length_cons,List.length_nil];omega
theorem oX{P:Int->Prop}:∀ {ys:List D},(∀ y∈ys,∃ n,P n/\y=.int n)->∃ l:List Int,ys=l.map D.int/\l.length=ys.length/\∀ n∈l,P n
 | [],_=>⟨[],rfl,rfl,fun _ h=>absurd h List.not_mem_nil⟩
 | y::r,h=>by
   obtain⟨n,hn,rfl⟩:=h y List.mem_cons_self
   obtain⟨l,rfl,hl,hp⟩:=oX fun y hy=>h y (List.mem_cons_of_mem _ hy)
   exact⟨n::l,rfl,by simp,fun x hx=>by
    rcases List.mem_cons.mp hx with rfl | hx
    ·exact hn
    ·exact hp x hx⟩
theorem bW0{n:Nat}{y:D}(h:y∈nO 0 n):∃ i:Int,(0<=i/\i < n)/\y=.int i:=by
 obtain⟨j,hj⟩:=List.mem_iff_getElem?.mp h
 obtain⟨h1,h2⟩:=lE hj
 exact⟨0+j,by omega,h2⟩
theorem cK6{n:Nat}(h:0 < n):nO 0 n≠[]:=fun z=>by have:=congrArg List.length z;rw[cX]at this;simp at this;omega
theorem okI{n:Nat}{l:List Int}:∀ d∈l.map D.int,Ok n d:=fun d hd=>by
 obtain⟨i,_,rfl⟩:=List.mem_map.mp hd
 exact .int
theorem cK7{a b m:Int}(h1:1<=m)(h6:m<=6){K:Res->List Sl->Prop}(k:∀ (l:List Int) a' b',l≠[]->l.length<=4->(∀ n∈l,0<=n/\n < m)->K (.own (.lst (l.map D.int))) [⟨.par,.lst [.int a',.int b']⟩,⟨.par,.lst (nO 0 m.toNat)⟩]) :
  CK bQ [⟨.par,.lst [.int a,.int b]⟩,⟨.par,.lst (nO 0 m.toNat)⟩] K:=by
 refine xH (.inl ⟨rfl,rfl⟩) (cK6 (by omega)) (by rw[cX];omega) fun ys a' b' y0 y4 ym=>?_
 obtain⟨l,rfl,hl,hp⟩:=oX (P:=fun n=>0<=n/\n < m) fun y hy=>by
  obtain⟨i,hi,rfl⟩:=bW0 (ym y hy)
  exact⟨i,by omega,rfl⟩
 exact k l a' b' (fun z=>y0 (by rw[z];rfl)) (by omega) hp
noncomputable def bW1:DS:=bN (iQ (jV "list" 3 aA5 (aC (dFz (dSl (aH 6) oZ (dP (dC (.int 4))))) aN)))
 (iQ (qX "list" 4 bD6 (aC (dE [8] (dIt (aV ixD (aH 3) (bA1 cM3 (dC (.int 1))))) (dgN 8) (dJ (aV (inD true) (aH 8) (aH 4))) (dFz (aH 8))) aN)))
noncomputable abbrev plS(a b m c:Int)(ls:List (List Int))(us:List Int)(s5 s6 s7:Option Sl):Sg:=[some ⟨.par,.lst [.int a,.int b]⟩,some ⟨.val,.int m⟩,some ⟨.val,.int c⟩,some ⟨.own,tP ls⟩,some ⟨.own,.lst (us.map D.int)⟩,s5,s6,s7,none]
structure PlI(m:Int)(ls:List (List Int))(us:List Int):Prop where
 le:∀ l∈ls,l≠[]/\l.length<=4/\∀ n∈l,0<=n/\n < m
 un:us≠[]
 ul:us.length<=4*ls.length
 um:∀ n∈us,0<=n/\n < m
theorem bW2{α:Type}(l:List α)(x:α):atI (l++[x]) (-1)=some x:=by
 unfold atI ixN
 rw[if_neg (by decide),if_pos (by rw[List.length_append,List.length_singleton];omega)]
 show(l++[x])[(-1+((l++[x]).length:Int)).toNat]? = _
 rw[show(-1+((l++[x]).length:Int)).toNat=l.length by rw[List.length_append,List.length_singleton];omega,List.getElem?_append_right (Nat.le_refl _),Nat.sub_self]
 rfl
theorem cK8{a b m c:Int}{ls:List (List Int)}{us l:List Int}{s5 s7:Option Sl}(hI:PlI m ls us)(h6:ls.length<=6)(hl:l≠[])(hm:∀ n∈l,0<=n/\n < m){Q:Out->Prop}
  (k:∀ us',PlI m (ls++[l.take 4]) us'->Q (.nx (plS a b m c (ls++[l.take 4]) us' s5 (some ⟨.own,.lst (l.map D.int)⟩) s7))):RS bW1 (plS a b m c ls us s5 (some ⟨.own,.lst (l.map D.int)⟩) s7) Q:=by
 have sl:10000<=sizeLine:=by decide
 have hul:=hI.ul
 have l4:(l.take 4).length<=4:=by rw[List.length_take];omega
 have e1:sV (l.map D.int) none (some 4)=(l.take 4).map D.int:=by rw[oQ _ (by decide),List.map_take];rfl
 have e2:ls.map (fun l=>D.lst (l.map D.int))++[D.lst ((l.take 4).map D.int)]=(ls++[l.take 4]).map (fun l=>D.lst (l.map D.int)):=by rw[List.map_append];rfl
 unfold bW1 plS tP
 walk_at "dx"
 rw[e1]
 refine⟨by rw[List.length_map];omega,?_⟩
 rw[bW2]
 walk_at "dx"
 refine⟨by rw[List.length_map];omega,bH (fun n=>!decide (n∈us)) D.int D.int (l.take 4) [_,_,_,_,_,_,_,_,none] rfl (fun n hn=>?_) ?_⟩
 ·walk_at "dx"
  refine oO (n:=0) (m:=0) .int okI (by decide) (by decide) ?_
  rw[lR D.int fun x y h=>by injection h]
  walk_at "dx"
 ·walk_at "dx"
  have lf:=List.length_filter_le (fun n=>!decide (n∈us)) (l.take 4)
  refine⟨by rw[List.length_map,List.length_map];omega,?_⟩
  rw[e2,← List.map_append]
  refine k _ ⟨fun x hx=>?_,fun z=>hI.un (List.append_eq_nil_iff.mp z).1,by rw[List.length_append,List.length_append,List.length_singleton];omega,fun n hn=>?_⟩
  ·rcases List.mem_append.mp hx with h | h
   ·exact hI.le x h
   ·rw[List.mem_singleton.mp h]
    refine⟨fun z=>?_,l4,fun n hn=>hm n (List.mem_of_mem_take hn)⟩
    rw[List.take_eq_nil_iff]at z
    rcases z with z | z
    ·omega
    ·exact hl z
  ·rcases List.mem_append.mp hn with h | h
   ·exact hI.um n h
   ·exact hm n (List.mem_of_mem_take (List.mem_filter.mp h).1)
theorem bG4{a b:Int}{K:Res->List Sl->Prop}(k:∀ ls a' b',cM6 ls->K (.own (tP ls)) [⟨.par,.lst [.int a',.int b']⟩]):CK bW [⟨.par,.lst [.int a,.int b]⟩] K:=by
 have sl:10000<=sizeLine:=by decide
 unfold bW
 rw[fJ]
 show RS cP [_,none,none,none,none,none,none,none,none] _
 rw[show cP=bN (cC 1 (aV gD (dC (.int 1)) (aX 2 aF (aC (aH 0) (aC (dC (.int 6)) aN)))))
  (bN (cC 2 (aV gD (dC (.int 1)) (aX 2 aF (aC (aH 0) (aC (dC (.int 6)) aN)))))
  (bN (jO (dJ (aV (eqD false) (aX 2 aF (aC (aH 0) (aC (dC (.int 3)) aN))) (dC (.int 0)))) (gU (dE [5] (yL (aC (aH 2) aN)) (dgN 5) lK (dFz (aX 2 bQ (aC (aH 0) (aC (dCB wU (aC (aH 1) aN)) aN)))))) eL)
  (bN (cC 3 (iI (aC (dFz (aX 2 bQ (aC (aH 0) (aC (dCB wU (aC (aH 1) aN)) aN)))) aN)))
  (bN (cC 4 (dCB lO (aC (aV ixD (aH 3) (dC (.int 0))) aN)))
  (bN (rT (yL (aC (aV cF7 (aH 2) (dC (.int 1))) aN)) (dgN 5)
  (bN (cC 6 (aX 2 bQ (aC (aH 0) (aC (aV ixD (aH 3) (aX 2 aF (aC (aH 0) (aC (dCB iR (aC (aH 3) aN)) aN)))) aN))))
  (bN (cC 7 (dE [8] (yL (aC (aH 1) aN)) (dgN 8) (dJ (aV (inD true) (aH 8) (aH 4))) (dFz (aH 8))))
  (bN (cC 6 (aV gD (dSl (aH 6) oZ (dP (aX 2 aF (aC (aH 0) (aC (aV gD (dCB iR (aC (aH 6) aN)) (dC (.int 1))) aN))))) (dSl (aH 7) oZ (dP (aX 2 aF (aC (aH 0) (aC (dC (.int 3)) aN)))))))
  (bN (jO (dJ (aV (eqD false) (aH 6) (iI aN))) (cC 6 (dSl (aH 4) oZ (dP (dC (.int 1))))) eL) bW1)))))
  (gU (aH 3)))))))from rfl]
 walk_at "dx"
 refine bR (by decide) (by decide) fun m0 a1 b1 m00 m01=>?_
 walk_at "dx"
 refine bR (by decide) (by decide) fun c0 a2 b2 c00 c01=>?_
 walk_at "dx"
 refine bR (by decide) (by decide) fun w a3 b3 w0 w1=>?_
 walk_at "dx"
 generalize hm:1+m0=m
 generalize hc:1+c0=c
 split
 ·refine⟨by omega,by rw[cX];omega,hW _ _ (fun i acc τ=>∃ (ls:List (List Int)) (a' b':Int),acc=ls.map (fun l=>.lst (l.map D.int))/\ls.length=i/\(∀ l∈ls,l.length<=6/\∀ n∈l,0<=n/\n < 6)/\τ=[some ⟨.par,.lst [.int a',.int b']⟩,some ⟨.val,.int m⟩,some ⟨.val,.int c⟩,none,none,none,none,none,none]) ⟨[],a3,b3,rfl,rfl,fun _ h=>absurd h List.not_mem_nil,rfl⟩ ?_ ?_⟩
  ·rintro i d acc τ hd ⟨ls,a',b',rfl,hl,hls,rfl⟩
   walk_at "dx"
   refine⟨by omega,cK7 (by omega) (by omega) fun l a4 b4 l0 l4 lm=>?_⟩
   walk_at "dx"
   refine⟨_,rfl,ls++[l],a4,b4,by rw[List.map_append];rfl,by rw[List.length_append,hl];rfl,fun x hx=>?_,rfl⟩
   rcases List.mem_append.mp hx with h | h
   ·exact hls x h
   ·rw[List.mem_singleton.mp h]
    exact⟨by omega,fun n hn=>by have:=lm n hn;omega⟩
  ·rintro acc τ ⟨ls,a',b',rfl,hl,hls,rfl⟩
   rw[cX]at hl
   walk_at "dx"
   exact k ls a' b' ⟨by omega,by omega,hls⟩
 ·refine⟨by omega,cK7 (by omega) (by omega) fun l a4 b4 l0 l4 lm=>?_⟩
  walk_at "dx"
  refine⟨by omega,by omega,kA (fun i τ=>∃ a' b' ls us x5 d5 x6 x7,ls.length=i+1/\PlI m ls us/\τ=plS a' b' m c ls us (ov x5 d5) (fo x6) (fo x7)) ⟨a4,b4,[l],l,false,.non,none,none,rfl,⟨fun x hx=>by rw[List.mem_singleton.mp hx];exact⟨l0,l4,lm⟩,l0,by simpa using l4,lm⟩,rfl⟩ ?_ ?_⟩
  ·rintro i d τ hd ⟨a',b',ls,us,x5,d5,x6,x7,hls,hI,rfl⟩
   obtain⟨hi,rfl⟩:=lE hd
   have lsl:(ls.map fun l=>D.lst (l.map D.int)).length=ls.length:=List.length_map _
   unfold plS tP
   walk_at "dx"
   refine bR (by omega) (by omega) fun j a5 b5 j0 j1=>?_
   obtain⟨l,el,hl⟩:=oU (fun l:List Int=>D.lst (l.map D.int)) (l:=ls) (i:=j) j0 (by omega)
   obtain⟨l0,l4,lm⟩:=hI.le l hl
   walk_at "dx"
   rw[el]
   walk_at "dx"
   refine xH (.inr ⟨rfl,rfl⟩) (fun z=>l0 (List.map_eq_nil_iff.mp z)) (by rw[List.length_map];omega) fun ys a6 b6 y0 y4 ym=>?_
   obtain⟨o,rfl,ho,hom⟩:=oX (P:=fun n=>0<=n/\n < m) (ys:=ys) fun y hy=>by
    obtain⟨n,hn,rfl⟩:=List.mem_map.mp (ym y hy)
    exact⟨n,lm n hn,rfl⟩
   walk_at "dx"
   refine⟨by omega,by rw[cX];omega,bH (fun n:Nat=>!decide ((0+(n:Int))∈us)) (fun n=>.int (0+(n:Int))) (fun n=>.int (0+(n:Int))) (List.range m.toNat) [_,_,_,_,_,_,_,_,none] rfl (fun n hn=>?_) ?_⟩
   ·walk_at "dx"
    refine oO (n:=0) (m:=0) .int okI (by decide) (by decide) ?_
    rw[lR D.int fun x y h=>by injection h]
    walk_at "dx"
   obtain⟨fs,ef,hf1,hf2⟩:∃ fs:List Int,((List.range m.toNat).filter fun n:Nat=>!decide ((0+(n:Int))∈us)).map (fun n:Nat=>D.int (0+(n:Int)))=fs.map D.int/\fs.length<=6/\∀ n∈fs,0<=n/\n < m:=by
    refine⟨((List.range m.toNat).filter fun n:Nat=>!decide ((0+(n:Int))∈us)).map fun n:Nat=>0+(n:Int),by rw[List.map_map];rfl,?_,fun n hn=>?_⟩
    ·rw[List.length_map]
     have:=List.length_filter_le (fun n:Nat=>!decide ((0+(n:Int))∈us)) (List.range m.toNat)
     rw[List.length_range]at this
     omega
    ·obtain⟨x,hx,rfl⟩:=List.mem_map.mp hn
     have:=List.mem_range.mp (List.mem_filter.mp hx).1
     omega
   walk_at "dx"
   rw[ef]
   have lo:(o.map D.int).length<=4:=y4
   refine bR (by omega) (by omega) fun j1 a7 b7 j10 j11=>?_
   walk_at "dx"
   refine bR (by decide) (by decide) fun j2 a8 b8 j20 j21=>?_
   walk_at "dx"
   obtain⟨p,ep,hp1,hp2⟩:∃ p:List Int,sV (o.map D.int) none (some j1)++sV (fs.map D.int) none (some j2)=p.map D.int/\p.length<=10/\∀ n∈p,0<=n/\n < m:=by
    refine⟨o.take j1.toNat++fs.take j2.toNat,by rw[oQ _ j10,oQ _ j20,List.map_append,List.map_take,List.map_take],?_,fun n hn=>?_⟩
    ·rw[List.length_append,List.length_take,List.length_take];rw[List.length_map]at lo;omega
    ·rcases List.mem_append.mp hn with h | h
     ·exact hom n (List.mem_of_mem_take h)
     ·exact hf2 n (List.mem_of_mem_take h)
   have ep2:=congrArg List.length ep
   rw[List.length_append,List.length_map]at ep2
   rw[ep]
   refine⟨by omega,Nat.zero_le _,oN (n:=0) okI (by decide) ?_⟩
   rw[List.isEmpty_map]
   walk_at "dx"
   split
   ·have e1:sV (us.map D.int) none (some 1)=(us.take 1).map D.int:=by rw[oQ _ (by decide),List.map_take];rfl
    rw[e1]
    refine cK8 hI (by omega) (fun z=>?_) (fun n hn=>hI.um n (List.mem_of_mem_take hn)) fun us' hI'=>?_
    ·rw[List.take_eq_nil_iff]at z
     rcases z with z | z
     ·omega
     ·exact hI.un z
    ·exact⟨_,.inl rfl,a8,b8,_,us',true,_,some (true,_),some (true,_),by rw[List.length_append,hls];rfl,hI',rfl⟩
   ·rename_i h0
    refine cK8 hI (by omega) (fun z=>h0 (by rw[z];rfl)) hp2 fun us' hI'=>?_
    exact⟨_,.inl rfl,a8,b8,_,us',true,_,some (true,_),some (true,_),by rw[List.length_append,hls];rfl,hI',rfl⟩
  ·rintro τ ⟨a',b',ls,us,x5,d5,x6,x7,hls,hI,rfl⟩
   rw[cX]at hls
   unfold plS
   walk_at "dx"
   exact k ls a' b' ⟨by omega,by omega,fun l hl=>⟨by have:=(hI.le l hl).2.1;omega,fun n hn=>by have:=(hI.le l hl).2.2 n hn;omega⟩⟩
theorem aZ4{as:List Sl}{K:Res->List Sl->Prop}{o:Out}(h:bK8 as K o):cS4 as K o:=by
 cases o with
 | nx σ=>exact h
 | rt r σ=>exact jR.mp h
 | bk σ=>exact h
 | ct σ=>exact h
 | ex c f σ=>exact h
noncomputable def bW3:DS:=bN (cC 5 (iI aN))
 (bN (rT (aW1 (aX 2 aY (aC (aH 0) (aC (aH 2) aN)))) (iK 2 (bS (dgN 6) (bS (dgN 7) gX)))
 (iQ (jV "list" 5 aA5 (aC (aC8 (aC (aV ixD (aH 4) (aH 6)) (aC (dCB bA5 (aC (dE [8] (dIt (aX 2 aY (aC (aH 0) (aC (aH 7) aN)))) (dgN 8) lK (aV ixD (aH 3) (aH 8))) aN)) aN))) aN))))
 (gU (dCB bA5 (aC (aH 5) aN))))
noncomputable def bW4:DS:=bN (cC 3 (aX 2 aY (aC (aH 0) (aC (aX 2 cL (aC (aH 0) (aC (dC (.int 6)) aN))) aN))))
 (bN (cC 4 (dFz (aH 3)))
 (bN (jO (dJ (aV gtI (aX 2 aF (aC (aH 0) (aC (dC (.int 4)) aN))) (dC (.int 0)))) (cC 4 (aX 2 cL (aC (aH 0) (aC (dC (.int 6)) aN)))) eL) bW3))
structure Qw(qs:List (Str×List Str)):Prop where
 l1:1<=qs.length
 l6:qs.length<=6
 qn:Qn qs
 nd:(qs.map Prod.fst).Nodup
theorem zI{P:List Int->Prop}:∀ {ys:List D},(∀ y∈ys,∃ l,P l/\y=.lst (l.map D.int))->∃ ls:List (List Int),ys=ls.map (fun l=>.lst (l.map D.int))/\ls.length=ys.length/\∀ l∈ls,P l
 | [],_=>⟨[],rfl,rfl,fun _ h=>absurd h List.not_mem_nil⟩
 | y::r,h=>by
   obtain⟨n,hn,rfl⟩:=h y List.mem_cons_self
   obtain⟨l,rfl,hl,hp⟩:=zI fun y hy=>h y (List.mem_cons_of_mem _ hy)
   exact⟨n::l,rfl,by simp,fun x hx=>by
    rcases List.mem_cons.mp hx with rfl | hx
    ·exact hn
    ·exact hp x hx⟩
theorem aZ5{P:Str->Prop}:∀ {ys:List D},(∀ y∈ys,∃ z,P z/\y=.str z)->∃ l:List Str,ys=l.map D.str/\∀ z∈l,P z
 | [],_=>⟨[],rfl,by simp⟩
 | y::r,h=>by
   obtain⟨z,hz,rfl⟩:=h y List.mem_cons_self
   obtain⟨l,rfl,hl⟩:=aZ5 fun y hy=>h y (List.mem_cons_of_mem _ hy)
   exact⟨z::l,rfl,fun x hx=>by
    rcases List.mem_cons.mp hx with rfl | hx
    ·exact hz
    ·exact hl x hx⟩
theorem cK9{a b a0 b0 w:Int}{ls:List (List Int)}{cs ts:List Str}{m:Md}(hm:m=.val\/m=.own)(hs:cM6 ls)(hc:cs.length=6)(hct:∀ z∈cs,Tx z)(ht:ts.length=6)(htt:∀ z∈ts,Tx z)(htn:ts.Nodup){K:Res->List Sl->Prop}
  (k:∀ qs a' b',Qw qs->K (.val (qD qs)) [⟨.par,.lst [.int a',.int b']⟩]) :
  RS bW3 [some ⟨.par,.lst [.int a,.int b]⟩,some ⟨.val,.int w⟩,some ⟨.own,tP ls⟩,some ⟨.val,.lst (cs.map D.str)⟩,some ⟨m,.lst (ts.map D.str)⟩,none,none,none,none] (bK8 [⟨.par,.lst [.int a0,.int b0]⟩] K):=by
 have sl:10000<=sizeLine:=by decide
 obtain⟨s1,s6,sm⟩:=hs
 unfold bW3 tP
 rcases hm with rfl | rfl
 all_goals
  walk_at "dx"
  refine⟨Nat.zero_le _,by decide,oP (xs:=ls.map fun l=>D.lst (l.map D.int)) (.inl ⟨rfl,rfl⟩) (by rw[List.length_map];omega) fun ys a1 b1 hp=>?_⟩
  obtain⟨ms,rfl,hml,hmm⟩:=zI (P:=fun l=>l.length<=6/\∀ n∈l,0<=n/\n < 6) (ys:=ys) fun y hy=>by
   obtain⟨l,hl,rfl⟩:=List.mem_map.mp (hp.mem_iff.mp hy)
   exact⟨l,sm l hl,rfl⟩
  have hl6:=hp.length_eq
  rw[List.length_map,List.length_map]at hl6
  walk_at "dx"
  refine kA (fun i τ=>i<=6/\∃ a' b' x6 d6 x7 d7,∃ qs:List (Str×List Str),qs.map Prod.fst=ts.take i/\(∀ q∈qs,q.2.length<=6/\∀ z∈q.2,Tx z)/\τ=[some ⟨.par,.lst [.int a',.int b']⟩,_,_,_,_,some ⟨.own,.lst (qs.map qP)⟩,ov x6 d6,ov x7 d7,none]) ⟨by omega,a1,b1,false,.non,false,.non,[],rfl,fun _ h=>absurd h List.not_mem_nil,rfl⟩ ?_ ?_
  ·rintro i d τ hd ⟨hi6,a',b',x6,d6,x7,d7,qs,hqf,hqc,rfl⟩
   obtain⟨y,hy,rfl⟩:=hR hd
   obtain⟨l,hli,rfl⟩:=jD hy
   have him:i < ms.length:=(List.getElem?_eq_some_iff.mp hli).1
   obtain⟨hl6',hln⟩:=hmm l (List.mem_of_getElem? hli)
   have hql:qs.length=i:=by
    have:=congrArg List.length hqf
    rw[List.length_map,List.length_take]at this
    omega
   have eti:ts[i]? = some ts[i]:=List.getElem?_eq_getElem (by omega)
   have eat:atI (ts.map D.str) (((0+i:Nat):Int))=some (.str ts[i]):=by
    unfold atI
    rw[bG3 (by omega) (by rw[List.length_map];omega)]
    show(ts.map D.str)[((0+i:Nat):Int).toNat]? = _
    rw[Int.toNat_natCast,Nat.zero_add,List.getElem?_map,eti];rfl
   walk_at "dx"
   simp only[Nat.zero_add]at eat ⊢
   rw[eat]
   walk_at "dx"
   refine oP (xs:=l.map D.int) (.inr (.inl ⟨rfl,rfl⟩)) (by rw[List.length_map];omega) fun zs a2 b2 hp2=>?_
   obtain⟨js,rfl,hjl,hjm⟩:=oX (P:=fun n=>0<=n/\n < 6) (ys:=zs) fun y hy=>by
    obtain⟨n,hn,rfl⟩:=List.mem_map.mp (hp2.mem_iff.mp hy)
    exact⟨n,hln n hn,rfl⟩
   have hj6:=hp2.length_eq
   rw[List.length_map,List.length_map]at hj6
   walk_at "dx"
   refine⟨by rw[List.length_map];omega,hW _ _ (fun j acc τ=>∃ us:List Str,acc=us.map D.str/\us.length=j/\(∀ z∈us,Tx z)/\τ=[some ⟨.par,.lst [.int a2,.int b2]⟩,_,_,_,_,_,_,_,none]) ⟨[],rfl,rfl,fun _ h=>absurd h List.not_mem_nil,rfl⟩ ?_ ?_⟩
   ·rintro j d acc τ hd ⟨us,rfl,hul,hut,rfl⟩
    obtain⟨n,hn,rfl⟩:=jD hd
    have hn6:=hjm n (List.mem_of_getElem? hn)
    obtain⟨c,ec,hcm⟩:=oU D.str (l:=cs) (i:=n) hn6.1 (by omega)
    walk_at "dx"
    rw[ec]
    walk_at "dx"
    refine⟨_,rfl,us++[c],by rw[List.map_append];rfl,by rw[List.length_append,hul];rfl,fun z hz=>?_⟩
    rcases List.mem_append.mp hz with h | h
    ·exact hut z h
    ·rw[List.mem_singleton.mp h];exact hct c hcm
   ·rintro acc τ ⟨us,rfl,hul,hut,rfl⟩
    rw[List.length_map]at hul
    walk_at "dx"
    refine⟨by omega,by rw[List.length_map];omega,_,.inl rfl,by omega,a2,b2,true,_,true,_,qs++[(ts[i],us)],by rw[List.map_append,hqf,List.take_add_one,eti];rfl,fun q hq=>?_,by rw[List.map_append];rfl⟩
    rcases List.mem_append.mp hq with h | h
    ·exact hqc q h
    ·rw[List.mem_singleton.mp h]
     exact⟨by show us.length<=6;omega,hut⟩
  ·rintro τ ⟨_,a',b',x6,d6,x7,d7,qs,hqf,hqc,rfl⟩
   rw[gN,List.length_map]at hqf
   have hql:qs.length=ms.length:=by
    have:=congrArg List.length hqf
    rw[List.length_map,List.length_take]at this
    omega
   walk_at "dx"
   refine k qs a' b' ⟨by omega,by omega,⟨by omega,fun q hq=>⟨htt _ ?_,by have:=(hqc q hq).1;omega,(hqc q hq).2⟩⟩,by rw[hqf];exact htn.sublist (List.take_sublist _ _)⟩
   have:q.1∈ts.take ms.length:=by rw[← hqf];exact List.mem_map_of_mem hq
   exact List.mem_of_mem_take this
theorem cL0{a b a0 b0 w:Int}{ls:List (List Int)}(hs:cM6 ls){K:Res->List Sl->Prop}(k:∀ qs a' b',Qw qs->K (.val (qD qs)) [⟨.par,.lst [.int a',.int b']⟩]) :
  RS bW4 [some ⟨.par,.lst [.int a,.int b]⟩,some ⟨.val,.int w⟩,some ⟨.own,tP ls⟩,none,none,none,none,none,none] (bK8 [⟨.par,.lst [.int a0,.int b0]⟩] K):=by
 unfold bW4
 walk_at "dx"
 refine zG fun zs a1 b1 z6 zn zt=>?_
 walk_at "dx"
 refine oP (xs:=zs.map D.str) (.inl ⟨rfl,rfl⟩) (by rw[List.length_map];omega) fun ys a2 b2 hp=>?_
 obtain⟨cs,rfl,hct⟩:=aZ5 (P:=Tx) (ys:=ys) fun y hy=>by
  obtain⟨z,hz,rfl⟩:=List.mem_map.mp (hp.mem_iff.mp hy)
  exact⟨z,zt z hz,rfl⟩
 have hc6:=hp.length_eq
 rw[List.length_map,List.length_map,z6]at hc6
 have hcn:cs.Nodup:=by
  have:(zs.map D.str).Nodup:=List.Pairwise.map _ (fun a b n z=>n (rP _ _ z)) zn
  have:=hp.nodup_iff.mpr this
  exact List.Pairwise.of_map D.str (fun a b n z=>n (by rw[z])) this
 walk_at "dx"
 refine bR (by decide) (by decide) fun v a3 b3 v0 v1=>?_
 walk_at "dx"
 split
 ·refine zG fun ts a4 b4 t6 tn tt=>?_
  walk_at "dx"
  exact cK9 (.inr rfl) hs hc6 hct t6 tt tn k
 ·exact cK9 (.inl rfl) hs hc6 hct hc6 hct hcn k
theorem xK{a b:Int}{K:Res->List Sl->Prop}(k:∀ qs a' b',Qw qs->K (.val (qD qs)) [⟨.par,.lst [.int a',.int b']⟩]):cH [⟨.par,.lst [.int a,.int b]⟩] K:=by
 unfold cH bX4
 refine dX _ _ _ (fun o h=>aZ4 h) ?_
 show cQ [_,none,none,none,none,none,none,none,none] _
 rw[show cQ=bA6 (RS (cC 1 (aX 2 aF (aC (aH 0) (aC (dC (.int 2)) aN))))) (bA6 (mIf (dJ (aV (eqD false) (aH 1) (dC (.int 0)))) (tO 2 1 cRS (aC (aH 0) aN)) (RS (cC 2 (aX 1 bW (aC (aH 0) aN))))) (RS bW4))from rfl]
 show RS _ _ (sqM _ _)
 walk_at "dx"
 refine bR (by decide) (by decide) fun w a1 b1 w0 w1=>?_
 walk_at "dx"
 unfold bA6 mIf
 walk_at "dx"
 split
 ·show _/\cRS _ _
  exact⟨⟨rfl,rfl⟩,a1,b1,rfl,fun ls a' b' hs=>cL0 hs k⟩
 ·refine bG4 fun ls a' b' hs=>?_
  walk_at "dx"
  exact cL0 hs k
theorem bG5{b:Bool}{K:Res->List Sl->Prop}(k:K (.val (.bl true)) [⟨.val,.bl b⟩,⟨.val,.bl b⟩]):CK dM [⟨.val,.bl b⟩,⟨.val,.bl b⟩] K:=by
 unfold dM
 rw[fJ]
 show RS fM [_,_] _
 unfold fM
 walk_at "dx"
 have e:eqD false (.bl b) (.bl b)=some (.val (.bl true)):=by cases b<;>rfl
 rw[if_pos (by decide),e]
 exact k
theorem bW5{i n:Nat}{C:MC}{ra:DA}{σ:Sg}{Q:Out->Prop}:tO i n C ra σ Q=RA ra σ fun rs σ1=>AK σ1 rs fun as=>(as.length=n/\eM rs=true)/\C as fun y as'=>BK rs as' σ1 fun σ2=>PtK i y σ2 fun σ3=>Q (.nx σ3):=by
 unfold tO RA AK BK PtK
 congr 1;funext x;congr 1;funext as
 apply propext
 constructor
 ·rintro⟨h,q⟩
  simp only[bD9 h.2]at q
  exact⟨h,q⟩
 ·rintro⟨h,q⟩
  simp only[← bD9 h.2]at q
  exact⟨h,q⟩
noncomputable abbrev lD(es:List (Str×Option Str)):D:=.lst (es.map eD)
noncomputable def bW6:DS:=bN (rT (dIt (aV gD (aH 3) (dSl (aH 3) oZ (dP (dC (.int 1)))))) (dgN 6)
 (bN (cC 7 (dCB lO (aC (aH 6) aN)))
 (bN (jO (cE8 (dJ (aX 2 dM (aC (aX 2 dO (aC (aH 1) (aC (aH 7) aN))) (aC (aX 2 dN (aC (aH 1) (aC (aH 6) aN))) aN))))) (gU (dC (.bl false))) eL)
 (jO (dJ (aV (eqD true) (aH 7) (aH 6))) (gU (dC (.bl false))) eL))))
 (gU (dC (.bl true)))
theorem cQ9{s0 s2:Option Sl}{qs:List (Str×List Str)}{Ls:List (List (Str×Option Str))}{x4 x6:Bool}{d4 d6:D}{x5:Option (Bool×D)}(hq:Qw qs)(hl:Ls.length<=100)(he:∀ es∈Ls,∀ p∈es,Eg p){Q:Out->Prop}
  (k:∀ σ,Q (.rt (.val (.bl true)) σ)):RS bW6 [s0,some ⟨.val,qD qs⟩,s2,some ⟨.own,.lst (Ls.map lD)⟩,ov x4 d4,fo x5,ov x6 d6,none] Q:=by
 have sl:10000<=sizeLine:=by decide
 unfold bW6
 walk_at "dx"
 have e1:sV (Ls.map lD) none (some 1)=(Ls.take 1).map lD:=by rw[oQ _ (by decide),List.map_take];rfl
 rw[e1,← List.map_append]
 refine⟨by rw[List.length_map,List.length_map,List.length_take];omega,kA (fun i τ=>∃ x6 d6 x7,τ=[_,some ⟨.val,qD qs⟩,_,_,_,_,ov x6 d6,fo x7]) ⟨x6,d6,none,rfl⟩ ?_ ?_⟩
 ·rintro i d τ hd ⟨x6,d6,x7,rfl⟩
  obtain⟨es,hes,rfl⟩:=jD hd
  have hee:∀ p∈es,Eg p:=by
   rcases List.mem_append.mp (List.mem_of_getElem? hes)with h | h
   ·exact he es h
   ·exact he es (List.mem_of_mem_take h)
  walk_at "dx"
  refine tX hq.qn hee ?_
  walk_at "dx"
  refine bG1 hq.qn hq.nd hee ?_
  walk_at "dx"
  rw[← aZ1 hq.nd]
  refine bG5 ?_
  walk_at "dx"
  have hok:Ok 2 (lD es):=.lst fun d hd=>by
   obtain⟨p,hp,rfl⟩:=List.mem_map.mp hd
   exact bF9 (hee p hp)
  refine aX7 hok hok (by decide) (by decide) ?_
  rw[decide_eq_true rfl]
  walk_at "dx"
  exact⟨_,.inl rfl,true,lD es,some (true,lD es),rfl⟩
 ·rintro τ ⟨x6,d6,x7,rfl⟩
  walk_at "dx"
  exact k _
theorem bG6(ns:List Int)(hn:ns.length<=63):oJ [⟨.val,.lst (ns.map D.int)⟩] fun y _=>y=.val (.bl true):=by
 have sl:10000<=sizeLine:=by decide
 unfold oJ bX4
 refine xC _ _ _ (fun o h=>aZ4 h) ?_
 show qC [_,none,none,none,none,none,none,none] _
 rw[show qC=bA6 (tO 1 1 cH (aC (aX 2 cN (aC (aH 0) (aC (dC (.int 0)) aN))) aN))
  (RS (bN (cC 2 (aX 2 dL (aC (aX 2 cN (aC (aH 0) (aC (dC (.int 1)) aN))) (aC (aH 1) aN))))
  (bN (cC 3 (iI (aC (dFz (aH 2)) (aC (dFz (iI aN)) aN))))
  (bN (rT (yL (aC (dC (.int 2)) (aC (dCB aK3 (aC (dC (.int 6)) (aC (dCB aA4 (aC (dC (.int 10)) (aC (dCB iR (aC (aH 0) aN)) aN))) aN))) aN))) (dgN 4)
  (bN (cC 5 (aX 2 cN (aC (aH 0) (aC (aH 4) aN))))
  (bN (cC 6 (aX 3 cB (aC (aH 5) (aC (aH 1) (aC (aH 2) aN)))))
  (bN (jO (bQ4 (dJ (aV (eqD false) (aX 2 aF (aC (aH 5) (aC (dC (.int 3)) aN))) (dC (.int 0)))) (dJ (aV (eqD true) (aH 6) (iI aN)))) (cC 6 (aX 3 cB (aC (aH 5) (aC (aH 1) (aC (aH 6) aN))))) eL)
  (iQ (jV "list" 3 aA5 (aC (dFz (aH 6)) aN))))))) bW6))))from rfl]
 unfold bA6
 rw[bW5]
 walk_at "dx"
 refine aX9 (by decide) (by decide) fun a b=>?_
 walk_at "dx"
 refine xK fun qs a1 b1 hq=>?_
 have hql:=hq.l6
 walk_at "dx"
 refine aX9 (by decide) (by decide) fun a2 b2=>?_
 walk_at "dx"
 refine bG2 hq.qn hq.nd fun es a3 b3 hel hee=>?_
 have he0:es≠[]:=fun z=>by have:=hq.l1;rw[z,List.length_nil]at hel;omega
 walk_at "dx"
 obtain⟨c,ec,c1,c2⟩:∃ c:Int,(if(if(((ns.map D.int).length:Nat):Int) < 10 then(((ns.map D.int).length:Nat):Int)else 10) > 6 then(if(((ns.map D.int).length:Nat):Int) < 10 then(((ns.map D.int).length:Nat):Int)else 10)else 6)=c/\6<=c/\c<=10:=⟨_,rfl,by split<;>omega,by split<;>(try split)<;>omega⟩
 rw[ec]
 refine⟨by omega,by omega,by omega,kA (fun i τ=>∃ x4 d4 x5 x6 d6,∃ Ls:List (List (Str×Option Str)),Ls.length=i+2/\(∀ es∈Ls,∀ p∈es,Eg p)/\τ=[some ⟨.val,.lst (ns.map D.int)⟩,some ⟨.val,qD qs⟩,some ⟨.val,.lst (es.map eD)⟩,some ⟨.own,.lst (Ls.map lD)⟩,ov x4 d4,fo x5,ov x6 d6,none]) ⟨false,.non,none,false,.non,[es,[]],rfl,fun x hx=>?_,rfl⟩ ?_ ?_⟩
 ·simp only[List.mem_cons,List.not_mem_nil,or_false]at hx
  rcases hx with rfl | rfl
  ·exact hee
  ·exact fun _ h=>absurd h List.not_mem_nil
 ·rintro i d τ hd ⟨x4,d4,x5,x6,d6,Ls,hL,hLe,rfl⟩
  obtain⟨hi,rfl⟩:=lE hd
  walk_at "dx"
  refine aX9 (by omega) (by omega) fun a4 b4=>?_
  walk_at "dx"
  refine uB (.inr rfl) hq.qn hee he0 (by omega) fun e1 a5 b5 l1 g1=>?_
  walk_at "dx"
  refine bR (by decide) (by decide) fun w a6 b6 w0 w1=>?_
  walk_at "dx"
  have lL:(Ls.map lD).length=Ls.length:=List.length_map _
  have fin:∀ e2:List (Str×Option Str),(∀ p∈e2,Eg p)->∀ es∈Ls++[e2],∀ p∈es,Eg p:=fun e2 h es hes=>by
   rcases List.mem_append.mp hes with h' | h'
   ·exact hLe es h'
   ·rw[List.mem_singleton.mp h'];exact h
  split
  ·refine⟨Nat.zero_le _,oN (n:=1) (fun d hd=>?_) (by decide) ?_⟩
   ·obtain⟨p,hp,rfl⟩:=List.mem_map.mp hd
    exact bF9 (g1 p hp)
   rw[List.isEmpty_map]
   walk_at "dx"
   split
   ·rename_i h0
    refine⟨by decide,uB (.inl rfl) hq.qn g1 (fun z=>by rw[z]at h0;exact absurd h0 (by decide)) (by omega) fun e2 a7 b7 l2 g2=>?_⟩
    walk_at "dx"
    exact⟨by omega,_,.inl rfl,true,_,some (true,_),true,_,Ls++[e2],by rw[List.length_append,hL];rfl,fin e2 g2,by rw[List.map_append];rfl⟩
   ·exact⟨by omega,_,.inl rfl,true,_,some (true,_),true,_,Ls++[e1],by rw[List.length_append,hL];rfl,fin e1 g1,by rw[List.map_append];rfl⟩
  ·exact⟨by omega,_,.inl rfl,true,_,some (true,_),true,_,Ls++[e1],by rw[List.length_append,hL];rfl,fin e1 g1,by rw[List.map_append];rfl⟩
 ·rintro τ ⟨x4,d4,x5,x6,d6,Ls,hL,hLe,rfl⟩
  rw[cX]at hL
  walk_at "dx"
  exact cQ9 hq (by omega) hLe fun σ=>rfl
end Mr
namespace Mr
open PySem L2
noncomputable def uC(H0 H:Hp)(es:List V):Prop:=∀ e∈es,∃ (w:Addr) (ns:List Int),e=.ref w/\H w=some (.lst (ns.map V.int))/\ns.length<=5/\(∀ n∈ns,0<=n/\n < 6)/\H0 w=none
noncomputable abbrev i6:List V:=(List.range 6).map fun(i:Nat)=>V.int (i:Int)
noncomputable def oY:Sps:=fun _ vs H Q _=>∃ p q:Addr,vs=[.ref p,.ref q]/\fF H p/\H q=some (.lst i6) /\
 ∀ (r:Addr) (ns:List Int) H',H r=none->H' r=some (.lst (ns.map V.int))->ns.length<=5->(∀ n∈ns,0<=n/\n < 6)->fF H' p->SameBut p H H'->Q (.ref r) H'
noncomputable def iC:Sps:=fun _ vs H Q _=>∃ p:Addr,vs=[.ref p]/\fF H p /\
 ∀ (r:Addr) (es:List V) H',H r=none->H' r=some (.lst es)->1<=es.length->es.length<=6->uC H H' es->fF H' p->SameBut p H H'->Q (.ref r) H'
theorem rR{H:Hp}{w s:Addr}{ns:List Int}{es:List V}(h:H w=some (.lst (ns.map V.int)))(h':H s=some (.lst es))(he:V.ref w∈es):w≠s:=fun z=>by
 subst z
 rw[h]at h'
 injection h' with h'
 injection h' with h'
 rw[← h']at he
 obtain⟨n,_,e⟩:=List.mem_map.mp he
 cases e
local macro_rules | `(tactic| walk_at "sx")=>`(tactic| simp only[↓bJ0,↓aG3,↓bJ1,↓aG5,↓bJ2,↓bJ3,↓aG4,↓xW,↓aG6,↓aF8,↓aF9,↓cR8,↓cC6,↓cC7,↓bI5,↓bO5,↓cC8,↓aG0,↓cC9,↓bI6,↓cD0,↓bI7,↓aG1,↓bI8,↓aG2,↓xV,↓bI9,↓bJ4,↓aG7,↓aG8,↓cD1,↓cD2,↓sK,↓aG9,↓aH0,↓yC,↓bJ6,↓bJ7,↓bK1,↓cD8,↓bK0,↓aH4,↓bJ8,↓aH5,↓xX,↓aH6,↓aH7,↓reduceIte,↓sM,↓sN,↓aH8,↓aH9,↓aI0,↓yD,↓aI1,↓yE,↓cE2,cS1,List.set_cons_zero,List.set_cons_succ,Int.reducePow,Int.reduceNeg,Int.reduceLT,Int.reduceLE,Int.reduceAdd])
local macro_rules | `(tactic| walk_at "sy")=>`(tactic| simp only[↓aG3,↓bJ1,↓aG5,↓bJ2,↓bJ3,↓aG4,↓xW,↓aG6,↓aF8,↓aF9,↓cR8,↓cC6,↓cC7,↓bI5,↓bO5,↓cC8,↓aG0,↓cC9,↓bI6,↓cD0,↓bI7,↓aG1,↓bI8,↓aG2,↓xV,↓bI9,↓bJ4,↓aG7,↓aG8,↓cD1,↓cD2,↓sK,↓aG9,↓aH0,↓yC,↓bJ6,↓bJ7,↓bK1,↓cD8,↓bK0,↓aH4,↓bJ8,↓aH5,↓xX,↓aH6,↓aH7,↓reduceIte,↓sM,↓sN,↓aH8,↓aH9,↓aI0,↓yD,↓aI1,↓yE,↓cE2,cS1,List.set_cons_zero,List.set_cons_succ,Int.reducePow,Int.reduceNeg,Int.reduceLT,Int.reduceLE,Int.reduceAdd])
section
variable{P:Program}{w:World}{K:PySem.W.Frag}{mg:Str->Option Value}{base:Heap}{a:Adr}
theorem lH(T:Txt K mg a)(G_law_take:FnOk P w K mg base CX0 1 a.law_take a.fd_law_take ["_law_box_here","_law_many"] (nK K))(G_law_some:FnOk P w K mg base CX0 3 a.law_some a.fd_law_some ["_law_box_here","_law_things"] (oY K)):FnOk P w K mg base CX0 4 a.law_round_sets a.fd_law_round_sets ["_law_box_here"] (iC K):=by
 refine T.F_law_round_sets.ok hU (fun vs H Q E h=>?_) (fun cdv A outer s H vs Q E hr h=>?_)
 ·obtain⟨p,rfl,_⟩:=h
  rfl
 ·obtain⟨p,rfl,hb,k⟩:=h
  have nd:=hU.nd
  refine⟨_,(fR (rW (i:=1) nd rfl (Or.inr rfl) (zO yB eU (aJ G_law_take (hr.mono (by decide)) rfl T.m_law_take T.F_law_take.kp (aM T) .nil bK (bO (pv 0) (bO eU eI)))))
   (fR (fU (i:=2) nd rfl rfl (csc [4] (by kernel_rfl)) (fA rfl T.n_range (bO (pv 1) eI)) (fun _ _ _ _=>(aR (i:=4) nd rfl (Or.inl rfl) (.inr rfl))) (aS (by decide)) (fun _ _ _ _=>qO) (fun _ _ _ _=>(bH7 (bO (pv 4) (bO (zO iU (zO yB (pv 4) eU) (pv 1)) eI)))) rfl)
   (fR (zL (iD (yA hr.units) (aJ G_law_take (hr.mono (by decide)) rfl T.m_law_take T.F_law_take.kp (aM T) .nil bK (bO (pv 0) (bO eU eI))) eU (bF _)) (fR (rW (i:=1) nd rfl (Or.inr rfl) (aZ (nE rfl) (by rfl) T.n_min (rG) (bO (pv 1) (bO eU eI))))
   (iS (fU (i:=2) nd rfl rfl (csc [5] (by kernel_rfl)) (fA rfl T.n_range (bO (pv 1) eI)) (fun _ _ _ _=>(aR (i:=5) nd rfl (Or.inr rfl) (.inl rfl))) (aS (by decide)) (fun _ _ _ _=>qO) (fun _ _ _ _=>(cT (csc [4] (by kernel_rfl)) (fA rfl T.n_range (bO (pv 1) eI)) (fun _ _ _ _=>(aR (i:=4) nd rfl (Or.inl rfl) (.inr rfl))) (aS (by decide)) (fun _ _ _ _=>(xT (iD (cE1 hr.units) (pv 4) (pv 5) (bF _)))) (fun _ _ _ _=>(pv 4)))) rfl))) nB)
   (fR (jM PassesOwn.never rfl (aI2 K rfl (pv 2)) (aR (i:=3) nd rfl (Or.inl rfl))
   (iS (zL (PW.pt (xN (iD bB0 (pv 1) eU (bF _)) (xN (iD bB0 (aZ bB (by rfl) T.n_len (bJ) (bO (pv 3) eI)) eU (bF _)) (uI (iD (yA hr.units) (aJ G_law_take (hr.mono (by decide)) rfl T.m_law_take T.F_law_take.kp (aM T) .nil bK (bO (pv 0) (bO eU eI))) eU (bF _)))))) (iS (qI (gW K rfl PySem.F.plainAttrs_list PySem.F.slot_list_append PySem.F.type_list_append fB (pv 3) (bO (zO yB (pv 1) (aJ G_law_take (hr.mono (by decide)) rfl T.m_law_take T.F_law_take.kp (aM T) .nil bK (bO (pv 0) (bO (zO aE1 eU (pv 1)) eI)))) eI)))) nB)))
   (fR (zL (PW.pt (xN (iD bB0 (aZ bB (by rfl) T.n_len (bJ) (bO (pv 2) eI)) eU (bF _)) (uI (iD (yA hr.units) (aJ G_law_take (hr.mono (by decide)) rfl T.m_law_take T.F_law_take.kp (aM T) .nil bK (bO (pv 0) (bO eU eI))) eU (bF _))))) (iS (qI (gW K rfl PySem.F.plainAttrs_list PySem.F.slot_list_append PySem.F.type_list_append fB (pv 2) (bO (aJ G_law_some (hr.mono (by decide)) rfl T.m_law_some T.F_law_some.kp (jL T) .nil bK (bO (pv 0) (bO (uT (T:="list") (U:="range") (qW rfl) (by rfl) T.n_list eN (by rfl) T.n_range boot_range (bO eU eI)) eI))) eI)))) nB)
   (fR (zL (iD (yA hr.units) (aJ G_law_take (hr.mono (by decide)) rfl T.m_law_take T.F_law_take.kp (aM T) .nil bK (bO (pv 0) (bO eU eI))) eU (bF _)) (iS (qI (bP7 K rfl PySem.F.plainAttrs_list PySem.F.slot_list_pop PySem.F.type_list_pop cC1 (pv 2)))) nB)
   (iS (bH4 (pv 2))))))))),?_⟩
  rw[show kH ["_law_box_here","_law_many","_law_found","_law_own","_law_k","_law_j"] [.ref p]=([some (.ref p),none,none,none,none,none]:St)from rfl]
  have bxne:∀ {w:Addr},H w=none->w≠p:=fun hw z=>by subst z;obtain⟨i',j',e'⟩:=hb;rw[hw]at e';cases e'
  have mono:∀ {H' H'':Hp} {es:List V},uC H H' es->(∀ w,H w=none->∀ o,H' w=some o->H'' w=some o)->uC H H'' es:=fun ho hk e he=>by
   obtain⟨w,ns,e1,e2,e3,e4,e5⟩:=ho e he
   exact⟨w,ns,e1,hk w e5 _ e2,e3,e4,e5⟩
  have byBut:∀ {H' H'':Hp} {es:List V},uC H H' es->SameBut p H' H''->uC H H'' es:=fun ho hs=>mono ho fun w hw o e=>hs w o (bxne hw) e
  have byNew:∀ {H':Hp} {es:List V} {l:Addr} {o:HO},uC H H' es->H' l=none->uC H (upd H' l o) es:=fun ho hl=>mono ho fun w _ o e=>by rw[aK (bL e hl)];exact e
  try walk_at "sy"
  rw[bJ0]
  try walk_at "sy"
  refine bO8 ⟨p,4,rfl,hb,by decide,by decide,fun d1 H1 d10 d11 hb1 hs1=>?_⟩
  try walk_at "sy"
  have m0:3<=3+d1:=by omega
  have m6:3+d1<=6:=by omega
  generalize hmm:(3+d1:Int)=m at m0 m6 ⊢
  clear hmm d10 d11 d1
  refine sO (fun σ' H'=>∃ (s:Addr) (es:List V),σ'=[some (V.ref p),some (V.int m),some (V.ref s),none,none,none]/\H s=none/\H' s=some (.lst es)/\es.length=m.toNat/\uC H H' es/\fF H' p/\SameBut p H H') ?_ ?_
  ·clear hb1 hs1
   rintro σ' H2 ⟨s,es,rfl,hs0,hse,hel,hol,hb2,hs2⟩
   refine sO (fun σ' H'=>∃ (m':Int) (s':Addr) (es':List V),σ'=[some (V.ref p),some (V.int m'),some (V.ref s'),none,none,none]/\3<=m'/\m'<=6/\H s'=none/\H' s'=some (.lst es')/\es'.length=m'.toNat/\uC H H' es'/\fF H' p/\SameBut p H H') ?_ ?_
   ·clear hs0 hse hel hol hb2 hs2 m0 m6
    rintro σ' H3 ⟨m,s,es,rfl,m0,m6,hs0,hse,hel,hol,hb3,hs3⟩
    refine sO (fun σ' H'=>∃ o3:Option V,σ'=[some (V.ref p),some (V.int m),some (V.ref s),o3,none,none]/\H' s=some (.lst es)/\uC H H' es/\fF H' p/\SameBut p H H') ?_ ?_
    ·clear hse hol hb3 hs3
     rintro σ' H4 ⟨o3,rfl,hse,hol,hb4,hs4⟩
     refine sO (fun σ' H'=>∃ es':List V,σ'=[some (V.ref p),some (V.int m),some (V.ref s),o3,none,none]/\H' s=some (.lst es')/\3<=es'.length/\es'.length<=6/\uC H H' es'/\fF H' p/\SameBut p H H') ?_ ?_
     ·clear hse hol hb4 hs4 hel
      rintro σ' H5 ⟨es,rfl,hse,hl3,hl6,hol,hb5,hs5⟩
      refine sO (fun σ' H'=>∃ es':List V,σ'=[some (V.ref p),some (V.int m),some (V.ref s),o3,none,none]/\H' s=some (.lst es')/\1<=es'.length/\es'.length<=6/\uC H H' es'/\fF H' p/\SameBut p H H') ?_ ?_
      ·clear hse hl3 hl6 hol hb5 hs5
       rintro σ' H6 ⟨es,rfl,hse,hl1,hl6,hol,hb6,hs6⟩
       try walk_at "sx"
       exact k s es H6 hs0 hse hl1 hl6 hol hb6 hs6
      ·intro C hC
       try walk_at "sx"
       refine bO8 ⟨p,4,rfl,hb5,by decide,by decide,fun d6 H6 d60 d61 hb6 hs6=>?_⟩
       try walk_at "sx"
       have hse6:=hs6 s _ (bxne hs0) hse
       refine bI1 (fun _=>?_) (fun _=>hC _ _ ⟨es,rfl,hse6,by omega,hl6,byBut hol hs6,hb6,hs5.trans hs6⟩)
       refine⟨tyL hse6,s,es,es[es.length-1],rfl,rfl,hse6,List.getElem?_eq_getElem (by omega),?_⟩
       refine hC _ _ ⟨es.dropLast,rfl,aT,by rw[List.length_dropLast];omega,by rw[List.length_dropLast];omega,?_,hb6.put (bxne hs0),(hs5.trans hs6).put hs0⟩
       intro e he
       have he':=List.dropLast_subset _ he
       obtain⟨w',ns',f1,f2,f3,f4,f5⟩:=(byBut hol hs6) e he'
       have hne:w'≠s:=rR f2 hse6 (by rw[← f1];exact he')
       exact⟨w',ns',f1,by rw[aK hne];exact f2,f3,f4,f5⟩
     ·intro C hC
      have skip:∀ H',fF H' p->SameBut p H4 H'->C [some (V.ref p),some (V.int m),some (V.ref s),o3,none,none] H':=fun H' hb' hs'=>
       hC _ _ ⟨es,rfl,hs' s _ (bxne hs0) hse,by omega,by omega,byBut hol hs',hb',hs4.trans hs'⟩
      try walk_at "sx"
      rw[pJ (mV hse)]
      try walk_at "sx"
      refine bI1 (fun hl=>?_) (fun _=>?_)
      ·have hl6:(es.length:Int) < 6:=by simpa using hl
       refine bO8 ⟨p,3,rfl,hb4,by decide,by decide,fun d5 H5 d50 d51 hb5 hs5=>?_⟩
       try walk_at "sx"
       refine bI1 (fun _=>?_) (fun _=>skip _ hb5 hs5)
       have hse5:=hs5 s _ (bxne hs0) hse
       refine⟨tyL hse5,6,rfl,by decide,by decide,fun q hq=>?_⟩
       have hsq:SameBut p H5 (upd H5 q (.lst i6)):=SameBut.refl.upd hq
       refine bO8 ⟨p,q,rfl,hb5.upd hq,aT,fun r ns H6 hr e6 n5 nm hb6 hs6=>?_⟩
       have hs56:=hsq.trans hs6
       have hse6:=hs56 s _ (bxne hs0) hse5
       have hs45:=hs4.trans hs5
       refine⟨s,es,_,rfl,rfl,hse6,Nat.lt_of_le_of_lt (by omega:es.length<=6) (by decide),?_⟩
       refine hC _ _ ⟨es++[.ref r],rfl,aT,by simp;omega,by simp;omega,?_,hb6.put (bxne hs0),(hs45.trans hs56).put hs0⟩
       intro e he
       rcases List.mem_append.mp he with h | h
       ·obtain⟨w',ns',f1,f2,f3,f4,f5⟩:=(byBut hol (hs5.trans hs56)) e h
        have hne:w'≠s:=rR f2 hse6 (by rw[← f1];exact h)
        exact⟨w',ns',f1,by rw[aK hne];exact f2,f3,f4,f5⟩
       ·rw[List.mem_singleton.mp h]
        have hrs:r≠s:=(bL (hsq s _ (bxne hs0) hse5) hr).symm
        exact⟨r,ns,rfl,by rw[aK hrs];exact e6,n5,nm,(hs45.trans hsq).none (hb5.upd hq) hr⟩
      ·try refine cO6 ?_
       exact skip _ hb4 SameBut.refl
    ·intro C hC
     try walk_at "sx"
     refine up (bC4 (mV hse)) ?_
     refine cD5 (sL (xs:=es)) (fun i σ H'=>∃ o3:Option V,σ=[some (V.ref p),some (V.int m),some (V.ref s),o3,none,none]/\H' s=some (.lst es)/\uC H H' es/\fF H' p/\SameBut p H H') ⟨none,rfl,hse,hol,hb3,hs3⟩ ?_ ?_ ?_
     ·rintro i σ H' ⟨o3,_,h2,_⟩
      exact SqL.of h2
     ·rintro i x σ H' hx ⟨o3,rfl,h2,h4,h5,h6⟩
      have hxm:=List.mem_of_getElem? hx
      obtain⟨w,ns,rfl,ww,wl,wn,w0⟩:=h4 x hxm
      have hws:w≠s:=rR ww h2 hxm
      have skip:∀ H'',fF H'' p->SameBut p H' H''->∃ o3:Option V,[some (V.ref p),some (V.int m),some (V.ref s),some (V.ref w),none,none]=[some (V.ref p),some (V.int m),some (V.ref s),o3,none,none]/\H'' s=some (.lst es)/\uC H H'' es/\fF H'' p/\SameBut p H H'':=fun H'' hb' hs'=>
       ⟨_,rfl,hs' s _ (bxne hs0) h2,byBut h4 hs',hb',h6.trans hs'⟩
      try walk_at "sx"
      refine bI1 (fun hm=>?_) (fun _=>?_)
      ·have hm6:m < 6:=by simpa using hm
       rw[pJ (mV ww)]
       try walk_at "sx"
       refine bI1 (fun hl=>?_) (fun _=>?_)
       ·rw[List.length_map]at hl
        have hl4:(ns.length:Int) < 4:=by simpa using hl
        refine bO8 ⟨p,3,rfl,h5,by decide,by decide,fun d7 H7 d70 d71 hb7 hs7=>?_⟩
        try walk_at "sx"
        refine bI1 (fun _=>?_) (fun _=>skip _ hb7 hs7)
        have ww7:=hs7 w _ (bxne w0) ww
        refine⟨tyL ww7,?_⟩
        refine bO8 ⟨p,6-m,rfl,hb7,by omega,by omega,fun d8 H8 d80 d81 hb8 hs8=>?_⟩
        have ww8:=hs8 w _ (bxne w0) ww7
        try walk_at "sx"
        have hs78:=hs7.trans hs8
        refine⟨w,_,_,rfl,rfl,ww8,by rw[List.length_map];exact Nat.lt_of_le_of_lt (by omega:ns.length<=10) (by decide),?_⟩
        refine⟨_,rfl,by rw[aK hws.symm];exact hs78 s _ (bxne hs0) h2,?_,hb8.put (bxne w0),(h6.trans hs78).put w0⟩
        intro e he
        obtain⟨w',ns',e1,e2,e3,e4,e5⟩:=(byBut h4 hs78) e he
        by_cases hww:w'=w
        ·subst hww
         rw[ww8]at e2
         refine⟨w',ns++[m+d8],e1,by rw[aT];simp,by simp;omega,?_,e5⟩
         intro n hn
         rcases List.mem_append.mp hn with h | h
         ·exact wn n h
         ·rw[List.mem_singleton.mp h];omega
        ·exact⟨w',ns',e1,by rw[aK hww];exact e2,e3,e4,e5⟩
       ·try refine cO6 ?_
        exact skip _ h5 SameBut.refl
      ·try refine cO6 ?_
       exact skip _ h5 SameBut.refl
     ·rintro σ H' ⟨o3,rfl,h2,h4,h5,h6⟩
      exact hC _ _ ⟨o3,rfl,h2,h4,h5,h6⟩
   ·intro C hC
    try walk_at "sx"
    refine bO8 ⟨p,2,rfl,hb2,by decide,by decide,fun d3 H3 d30 d31 hb3 hs3=>?_⟩
    try walk_at "sx"
    refine bI1 (fun _=>?_) (fun _=>hC _ _ ⟨m,s,es,rfl,m0,m6,hs0,hs3 s _ (bxne hs0) hse,hel,byBut hol hs3,hb3,hs2.trans hs3⟩)
    obtain⟨m',hm',m0',m5'⟩:∃ m',min m 5=m'/\3<=m'/\m'<=5:=⟨_,rfl,by omega,by omega⟩
    rw[hm']
    have hs3':=hs2.trans hs3
    refine⟨m',rfl,by omega,by omega,?_⟩
    refine uQ (P:=fun _=>True) kL (fun i ys H'=>ys.length=i/\uC H H' ys/\fF H' p/\SameBut p H H') ⟨rfl,(fun e he=>nomatch he),hb3,hs3'⟩ ?_ (by rw[eW];exact Nat.le_trans (by omega:m'.toNat<=6) (by decide)) ?_ ?_
    ·rintro i ys H' ⟨h1,_⟩
     exact⟨trivial,by omega⟩
    ·rintro i x ys H' N hx ⟨h1,h2,h4,h5⟩ hN
     obtain⟨hi,rfl⟩:=kK hx
     try walk_at "sx"
     refine⟨m',rfl,by omega,by omega,?_⟩
     refine uQ (P:=fun _=>True) kL (fun j us H''=>j<=5/\∃ ws:List Int,us=ws.map V.int/\ws.length<=j/\(∀ n∈ws,0<=n/\n < 6)/\H''=H') ⟨by omega,[],rfl,Nat.le_refl _,(fun z hz=>nomatch hz),rfl⟩ ?_ (by rw[eW];exact Nat.le_trans (by omega:m'.toNat<=6) (by decide)) ?_ ?_
     ·rintro j us H'' ⟨_,ws,rfl,h,_,rfl⟩
      exact⟨trivial,by rw[List.length_map];exact h⟩
     ·rintro j y us H'' N2 hy ⟨_,ws,rfl,g1,g2,rfl⟩ hN2
      obtain⟨hj,rfl⟩:=kK hy
      try walk_at "sx"
      refine bI1 (fun _=>?_) (fun _=>?_)
      ·refine hN2 _ _ ⟨by omega,ws++[0+(j:Int)],by simp,by simp;omega,?_,rfl⟩
       intro n hn
       rcases List.mem_append.mp hn with h | h
       ·exact g2 n h
       ·rw[List.mem_singleton.mp h];omega
      ·exact hN2 _ _ ⟨by omega,ws,rfl,by omega,g2,rfl⟩
     ·rintro us H'' ⟨gj,ws,rfl,g1,g2,rfl⟩ l hl
      refine hN _ _ ⟨by simp[h1],?_,h4.upd hl,h5.upd hl⟩
      intro e he
      rcases List.mem_append.mp he with h | h
      ·exact(byNew h2 hl) e h
      ·rw[List.mem_singleton.mp h]
       exact⟨l,ws,rfl,aT,by omega,g2,h5.none h4 hl⟩
    ·rintro ys H' ⟨h1,h2,h4,h5⟩ l hl
     try walk_at "sx"
     rw[eW]at h1
     exact hC _ _ ⟨m',l,ys,rfl,m0',by omega,h5.none h4 hl,aT,h1,byNew h2 hl,h4.upd hl,h5.upd hl⟩
  ·intro C hC
   try walk_at "sx"
   refine⟨m,rfl,by omega,by omega,?_⟩
   refine uQ (P:=fun _=>True) kL (fun i ys H'=>ys.length=i/\uC H H' ys/\fF H' p/\SameBut p H H') ⟨rfl,(fun e he=>nomatch he),hb1,hs1⟩ ?_ (by rw[eW];exact Nat.le_trans (by omega:m.toNat<=6) (by decide)) ?_ ?_
   ·rintro i ys H' ⟨h1,_⟩
    exact⟨trivial,by omega⟩
   ·rintro i x ys H' N hx ⟨h1,h2,h4,h5⟩ hN
    obtain⟨hi,rfl⟩:=kK hx
    try walk_at "sx"
    rw[cD7 (by omega)]
    have hmod0:0<=(0+(i:Int)+1) % m:=Int.emod_nonneg _ (by omega)
    have hmod1:(0+(i:Int)+1) % m < m:=Int.emod_lt_of_pos _ (by omega)
    refine⟨by show 2<=sizeLine;decide,fun l hl=>?_⟩
    refine hN _ _ ⟨by simp[h1],?_,h4.upd hl,h5.upd hl⟩
    intro e he
    rcases List.mem_append.mp he with h | h
    ·exact(byNew h2 hl) e h
    ·rw[List.mem_singleton.mp h]
     refine⟨l,[0+(i:Int),(0+(i:Int)+1) % m],rfl,aT,by show 2<=5;decide,?_,h5.none h4 hl⟩
     intro n hn
     simp only[List.mem_cons,List.not_mem_nil,or_false]at hn
     rcases hn with rfl | rfl<;>omega
   ·rintro ys H' ⟨h1,h2,h4,h5⟩ l hl
    try walk_at "sx"
    rw[eW]at h1
    exact hC _ _ ⟨l,ys,rfl,h5.none h4 hl,aT,h1,byNew h2 hl,h4.upd hl,h5.upd hl⟩
end
open Dv
theorem aZ6{K:PySem.W.Frag}(vs:List V)(H:Hp)(Q:L2.VK)(E:XK)(h:nK K vs H Q E):dsp 2 aF vs H Q E:=by
 obtain⟨p,m,rfl,⟨i,j,hp⟩,m0,m1,k⟩:=h
 have r:=bR (a:=i) (b:=j) (m:=m) m0 (by omega) (K:=fun res as'=>∃ d a' b',0<=d/\d < m/\res=.val (.int d)/\as'=[⟨.par,.lst [.int a',.int b']⟩,⟨.val,.int m⟩]) fun d a' b' h1 h2=>⟨d,a',b',h1,h2,rfl,rfl⟩
 obtain⟨⟨res,as'⟩,e,d,a',b',h1,h2,e1,e2⟩:=jR.mp r
 cases e1;cases e2
 refine⟨_,_,_,bU8 hp,rfl,e,fun v H' po nw=>?_⟩
 cases nw
 obtain⟨q1,q2⟩:=bF2 po
 exact k d H' h1 h2 q1 q2
noncomputable abbrev d6:List D:=(List.range 6).map fun(i:Nat)=>D.int (i:Int)
theorem aZ7{K:PySem.W.Frag}(vs:List V)(H:Hp)(Q:L2.VK)(E:XK)(h:oY K vs H Q E):dsp 2 bQ vs H Q E:=by
 obtain⟨p,q,rfl,⟨i,j,hp⟩,hq,k⟩:=h
 have hpq:p≠q:=fun z=>by
  subst z
  rw[hp]at hq
  cases hq
 have e6:∀ {H':Hp} {xs:List V},Rps H' d6 xs->xs=i6:=fun r=>Rps.ints_inv (ns:=(List.range 6).map fun(i:Nat)=>(i:Int)) r
 have r6:Rps H d6 i6:=iG ((List.range 6).map fun(i:Nat)=>(i:Int))
 have r:=xH (a:=i) (b:=j) (xs:=d6) (m:=.par) (t:=.lst d6) (.inl ⟨rfl,rfl⟩) (by decide) (by decide) (K:=fun res as'=>∃ ys a' b',ys.length<=4/\(∀ y∈ys,y∈d6)/\res=.own (.lst ys)/\as'=[⟨.par,.lst [.int a',.int b']⟩,⟨.par,.lst d6⟩]) fun ys a' b' _ h2 h3=>⟨ys,a',b',h2,h3,rfl,rfl⟩
 obtain⟨⟨res,as'⟩,e,ys,a',b',h1,h2,e1,e2⟩:=jR.mp r
 cases e1;cases e2
 refine⟨[⟨.par,.lst [.int i,.int j]⟩,⟨.par,.lst d6⟩],_,_,⟨rfl,fun n s es=>?_,fun n l s t c hn es et m1 m2 v1 v2=>?_,fun n s es=>?_⟩,rfl,e,fun v H' po nw=>?_⟩
 ·match n,es with
  | 0,es=>cases es;exact⟨_,rfl,p,rfl,_,hp,iG [i,j]⟩
  | 1,es=>cases es;exact⟨_,rfl,q,rfl,_,hq,r6⟩
 ·match n,es,l,et with
  | 0,_,0,_=>exact hn rfl
  | 0,_,1,_=>cases v1;cases v2;exact hpq rfl
  | 1,_,0,_=>cases v1;cases v2;exact hpq rfl
  | 1,_,1,_=>exact hn rfl
 ·match n,es with
  | 0,es=>cases es;exact fun z=>nomatch z
  | 1,es=>cases es;exact fun z=>nomatch z
 ·obtain⟨r,rfl,hr,xs,hx,hrp⟩:=nw
  obtain⟨ns,rfl,hnl,hnm⟩:=oX (P:=fun n=>0<=n/\n < 6) (ys:=ys) fun y hy=>by
   obtain⟨x,hx,rfl⟩:=List.mem_map.mp (h2 y hy)
   have:=List.mem_range.mp hx
   exact⟨x,by omega,rfl⟩
  rw[hrp.ints_inv]at hx
  obtain⟨s0,v0,f1,f2,f3,f4⟩:=po.rel 0 _ rfl rfl
  cases f1;cases f3
  obtain⟨_,g0,xs0,g1,g2⟩:=(cU (s:=⟨.par,.lst [.int a',.int b']⟩) (fun z=>nomatch z)).mp f4
  cases g0
  rw[Rps.ints_inv (ns:=[a',b']) g2]at g1
  obtain⟨s1,v1,u1,u2,u3,u4⟩:=po.rel 1 _ rfl rfl
  cases u1;cases u3
  obtain⟨_,w0,xs1,w1,w2⟩:=(cU (s:=⟨.par,.lst d6⟩) (fun z=>nomatch z)).mp u4
  cases w0
  rw[e6 w2]at w1
  refine k r ns H' hr hx (by omega) hnm ⟨a',b',g1⟩ fun c o hc eo=>?_
  by_cases hcq:c=q
  ·subst hcq
   rw[hq]at eo;cases eo;exact w1
  ·refine po.fr c o eo fun⟨n,s,es,mt,ev⟩=>?_
   match n,es with
   | 0,_=>cases ev;exact hc rfl
   | 1,_=>cases ev;exact hcq rfl
theorem rS{H0:Hp}{r:Addr}{In:Hp->Prop}(hst:∀ H w o u,In H->H0 w=none->w≠r->In (upd H w (.frz o u))){Q:Hp->Prop}:∀ (todo done:List (V×List Int)) (H:Hp),In H ->
  (∀ x∈todo,∃ w,x.1=.ref w/\(H w=some (.lst (x.2.map V.int))\/∃ o,H w=some (.frz o (.lst (x.2.map V.int))))/\H0 w=none/\w≠r) ->
  (∀ x∈done,∃ w o,x.1=.ref w/\H w=some (.frz o (.lst (x.2.map V.int)))) ->
  (∀ H',In H'->(∀ x∈done++todo,∃ w o,x.1=.ref w/\H' w=some (.frz o (.lst (x.2.map V.int))))->Q H')->FQ Q H
 | [],done,H,hi,_,hd,k=>.done (k H hi (by rw[List.append_nil];exact hd))
 | x::todo,done,H,hi,ht,hd,k=>by
   obtain⟨w,ew,hw,w0,wr⟩:=ht x List.mem_cons_self
   have ht':=fun y hy=>ht y (List.mem_cons_of_mem _ hy)
   have k':∀ H',In H'->(∀ y∈(done++[x])++todo,∃ w o,y.1=.ref w/\H' w=some (.frz o (.lst (y.2.map V.int))))->Q H':=fun H' a b=>k H' a (by rw[List.append_assoc]at b;exact b)
   rcases hw with hw | ⟨o,hw⟩
   ·refine .step hw True.intro fun o=>rS hst todo (done++[x]) _ (hst _ _ _ _ hi w0 wr) (fun y hy=>?_) (fun y hy=>?_) k'
    ·obtain⟨u,eu,hu,u0,ur⟩:=ht' y hy
     refine⟨u,eu,?_,u0,ur⟩
     by_cases huw:u=w
     ·subst huw
      rw[aT]
      rcases hu with hu | ⟨o',hu⟩
      ·rw[hw]at hu
       injection hu with hu
       rw[hu]
       exact .inr ⟨o,rfl⟩
      ·rw[hw]at hu;cases hu
     ·rw[aK huw];exact hu
    ·rcases List.mem_append.mp hy with h | h
     ·obtain⟨u,o',eu,hu⟩:=hd y h
      exact⟨u,o',eu,by rw[aK (fun z=>by subst z;rw[hw]at hu;cases hu)];exact hu⟩
     ·rw[List.mem_singleton.mp h]
      exact⟨w,o,ew,aT⟩
   ·refine rS hst todo (done++[x]) H hi ht' (fun y hy=>?_) k'
    rcases List.mem_append.mp hy with h | h
    ·exact hd y h
    ·rw[List.mem_singleton.mp h]
     exact⟨w,o,ew,hw⟩
theorem zJ{H0 H:Hp}{r:Addr}{es:List V}(hr:∀ w (ns:List Int),H w=some (.lst (ns.map V.int))->V.ref w∈es->w≠r):∀ {l:List V},(∀ e∈l,e∈es)->uC H0 H l->∃ ps:List (V×List Int),ps.map Prod.fst=l/\(∀ x∈ps,x.2.length<=5/\∀ n∈x.2,0<=n/\n < 6) /\
  ∀ x∈ps,∃ w,x.1=.ref w/\(H w=some (.lst (x.2.map V.int))\/∃ o,H w=some (.frz o (.lst (x.2.map V.int))))/\H0 w=none/\w≠r
 | [],_,_=>⟨[],rfl,fun _ h=>absurd h List.not_mem_nil,fun _ h=>absurd h List.not_mem_nil⟩
 | e::l,hm,ho=>by
   obtain⟨ps,h1,h2,h3⟩:=zJ hr (fun x hx=>hm x (List.mem_cons_of_mem _ hx)) fun x hx=>ho x (List.mem_cons_of_mem _ hx)
   obtain⟨w,ns,e1,e2,e3,e4,e5⟩:=ho e List.mem_cons_self
   refine⟨(e,ns)::ps,by rw[List.map_cons,h1],fun x hx=>?_,fun x hx=>?_⟩
   ·rcases List.mem_cons.mp hx with rfl | hx
    ·exact⟨e3,e4⟩
    ·exact h2 x hx
   ·rcases List.mem_cons.mp hx with rfl | hx
    ·exact⟨w,e1,.inl e2,e5,hr w ns e2 (by rw[← e1];exact hm e List.mem_cons_self)⟩
    ·exact h3 x hx
theorem uD{H:Hp}:∀ {ps:List (V×List Int)},(∀ x∈ps,∃ w o,x.1=.ref w/\H w=some (.frz o (.lst (x.2.map V.int))))->Rps H (ps.map fun x=>.lst (x.2.map D.int)) (ps.map Prod.fst)
 | [],_=>.nil
 | x::r,h=>by
   obtain⟨w,o,e1,e2⟩:=h x List.mem_cons_self
   rw[List.map_cons,List.map_cons,e1]
   exact .cons (.lst e2 (iG _)) (uD fun y hy=>h y (List.mem_cons_of_mem _ hy))
theorem bW7{K:PySem.W.Frag}(vs:List V)(H:Hp)(Q:L2.VK)(E:XK)(h:aJ7 1 cRS vs H Q E):spF (iC K) vs H Q E:=by
 obtain⟨as,ao,hl,a,b,rfl,q⟩:=h
 obtain⟨v0,e0,r0⟩:=ao.rel 0 _ rfl
 obtain⟨p,rfl,xs,hp,hr⟩:=(cU (s:=⟨.par,.lst [.int a,.int b]⟩) (fun z=>nomatch z)).mp r0
 rw[Rps.ints_inv (ns:=[a,b]) hr]at hp
 have ev:vs=[.ref p]:=by
  have hl:=ao.len
  match vs,hl with
  | [x],_=>cases e0;rfl
 subst ev
 refine⟨p,rfl,⟨a,b,hp⟩,fun r es H' hr he l1 l6 ho hb hs=>?_⟩
 obtain⟨ps,h1,h2,h3⟩:=zJ (r:=r) (es:=es) (fun w ns hw hm=>rR hw he hm) (fun e h=>h) ho
 refine rS (H0:=H) (r:=r) (In:=fun H2=>H2 r=some (.lst es)/\fF H2 p/\SameBut p H H2) (fun H2 w o u ⟨g1,g2,g3⟩ w0 wr=>⟨by rw[aK wr.symm];exact g1,g2.put (fun z=>by subst z;rw[hp]at w0;cases w0),g3.put w0⟩) ps [] H' ⟨he,hb,hs⟩ h3 (fun _ h=>absurd h List.not_mem_nil) fun H2 ⟨g1,⟨a',b',g2⟩,g3⟩ g4=>?_
 have hpl:ps.length=es.length:=by rw[← h1,List.length_map]
 have rp:=uD (ps:=ps) g4
 rw[h1]at rp
 refine q (ps.map Prod.snd) a' b' ⟨by rw[List.length_map];omega,by rw[List.length_map];omega,fun l hl=>?_⟩ (.ref r) H2 ⟨fun n s e mt=>?_,fun c o e n=>g3 c o (fun z=>n ⟨0,_,rfl,rfl,by rw[z];rfl⟩) e,fun c e=>?_⟩ ⟨r,rfl,hr,es,g1,by rw[List.map_map];exact rp⟩
 ·obtain⟨x,hx,rfl⟩:=List.mem_map.mp hl
  exact⟨by have:=(h2 x hx).1;omega,(h2 x hx).2⟩
 ·match n,e with
  | 0,e=>cases e;exact⟨_,_,rfl,rfl,rfl,p,rfl,_,g2,iG [a',b']⟩
 ·cases e2:H c with
  | none=>rfl
  | some o=>
    by_cases z:c=p
    ·subst z;rw[g2]at e;cases e
    ·rw[g3 c o z e2]at e;cases e
noncomputable def adr:Adr:=⟨60,Hd.bY2,72,Hd.bY4,79,Hd.bY5,89,Hd.bY7,84,Hd.bY6,65,Hd.bY3,94,Hd.bY8,53,Hd.bY1,104,Hd.bG8,114,Hd.bH0,119,Hd.bH1,126,Hd.bH2,109,Hd.bG9,24,Hd.bX6,19,Hd.bX5,29,Hd.bX7,34,Hd.bX8,39,Hd.bX9,46,Hd.bY0,133,Hd.xL⟩
theorem qH{K:PySem.W.Frag}{x q:Str}{s:Stmt}{f:Addr}{fd:FuncData}(m:Value)(c:Addr)(e:fd=PySem.W.fnOf x q (uM s) (lI s) (bA s) .none .none .none m none (.ref c) .none)(l:K.lookup f=some ⟨.type "function",none,.func fd,#[]⟩)(d:PySem.W.codeIn K (.ref c) q=true)(k:PySem.W.keepIn K (.ref f)=true):Fun K x q s f fd:=⟨⟨_,_,_,_,_,_,_,_,_,e,l,d⟩,k⟩
theorem txt{P:Params}{h:Heap}{mg:Str->Option Value}(X:(Hd.KF P).In h)(G:h.Ns mainGlobals mg):Txt (Hd.KF P) mg adr:=⟨PySem.W.mg_of X G (by kernel_rfl),
qH (.str "law_mostrows_k47_ears_looked_at" 232) 59 (by kernel_rfl) (by kernel_rfl) (by kernel_rfl) (by kernel_rfl),
PySem.W.mg_of X G (by kernel_rfl),
qH (.str "law_mostrows_k47_ears_looked_at" 232) 71 (by kernel_rfl) (by kernel_rfl) (by kernel_rfl) (by kernel_rfl),
PySem.W.mg_of X G (by kernel_rfl),
qH (.str "law_mostrows_k47_ears_looked_at" 232) 78 (by kernel_rfl) (by kernel_rfl) (by kernel_rfl) (by kernel_rfl),
PySem.W.mg_of X G (by kernel_rfl),
qH (.str "law_mostrows_k47_ears_looked_at" 232) 88 (by kernel_rfl) (by kernel_rfl) (by kernel_rfl) (by kernel_rfl),
PySem.W.mg_of X G (by kernel_rfl),
qH (.str "law_mostrows_k47_ears_looked_at" 232) 83 (by kernel_rfl) (by kernel_rfl) (by kernel_rfl) (by kernel_rfl),
PySem.W.mg_of X G (by kernel_rfl),
qH (.str "law_mostrows_k47_ears_looked_at" 232) 64 (by kernel_rfl) (by kernel_rfl) (by kernel_rfl) (by kernel_rfl),
PySem.W.mg_of X G (by kernel_rfl),
qH (.str "law_mostrows_k47_ears_looked_at" 232) 93 (by kernel_rfl) (by kernel_rfl) (by kernel_rfl) (by kernel_rfl),
PySem.W.mg_of X G (by kernel_rfl),
qH (.str "law_mostrows_k47_ears_looked_at" 232) 52 (by kernel_rfl) (by kernel_rfl) (by kernel_rfl) (by kernel_rfl),
PySem.W.mg_of X G (by kernel_rfl),
qH (.str "law_mostrows_k47_ears_looked_at" 232) 103 (by kernel_rfl) (by kernel_rfl) (by kernel_rfl) (by kernel_rfl),
PySem.W.mg_of X G (by kernel_rfl),
qH (.str "law_mostrows_k47_ears_looked_at" 232) 113 (by kernel_rfl) (by kernel_rfl) (by kernel_rfl) (by kernel_rfl),
PySem.W.mg_of X G (by kernel_rfl),
qH (.str "law_mostrows_k47_ears_looked_at" 232) 118 (by kernel_rfl) (by kernel_rfl) (by kernel_rfl) (by kernel_rfl),
PySem.W.mg_of X G (by kernel_rfl),
qH (.str "law_mostrows_k47_ears_looked_at" 232) 125 (by kernel_rfl) (by kernel_rfl) (by kernel_rfl) (by kernel_rfl),
PySem.W.mg_of X G (by kernel_rfl),
qH (.str "law_mostrows_k47_ears_looked_at" 232) 108 (by kernel_rfl) (by kernel_rfl) (by kernel_rfl) (by kernel_rfl),
PySem.W.mg_of X G (by kernel_rfl),
qH (.str "mostrows.ears" 195) 23 (by kernel_rfl) (by kernel_rfl) (by kernel_rfl) (by kernel_rfl),
PySem.W.mg_of X G (by kernel_rfl),
qH (.str "mostrows.questions" 187) 18 (by kernel_rfl) (by kernel_rfl) (by kernel_rfl) (by kernel_rfl),
PySem.W.mg_of X G (by kernel_rfl),
qH (.str "mostrows.ears" 195) 28 (by kernel_rfl) (by kernel_rfl) (by kernel_rfl) (by kernel_rfl),
PySem.W.mg_of X G (by kernel_rfl),
qH (.str "mostrows.ears" 195) 33 (by kernel_rfl) (by kernel_rfl) (by kernel_rfl) (by kernel_rfl),
PySem.W.mg_of X G (by kernel_rfl),
qH (.str "mostrows.ears" 195) 38 (by kernel_rfl) (by kernel_rfl) (by kernel_rfl) (by kernel_rfl),
PySem.W.mg_of X G (by kernel_rfl),
qH (.str "mostrows.ears" 195) 45 (by kernel_rfl) (by kernel_rfl) (by kernel_rfl) (by kernel_rfl),
PySem.W.mg_of X G (by kernel_rfl),
qH (.str "law_mostrows_k47_ears_looked_at" 232) 132 (by kernel_rfl) (by kernel_rfl) (by kernel_rfl) (by kernel_rfl),
PySem.W.mg_none_of X G (by kernel_rfl),
PySem.W.mg_none_of X G (by kernel_rfl),
PySem.W.mg_none_of X G (by kernel_rfl),
PySem.W.mg_none_of X G (by kernel_rfl),
PySem.W.mg_none_of X G (by kernel_rfl),
PySem.W.mg_none_of X G (by kernel_rfl),
PySem.W.mg_none_of X G (by kernel_rfl),
PySem.W.mg_none_of X G (by kernel_rfl),
PySem.W.mg_none_of X G (by kernel_rfl),
PySem.W.mg_none_of X G (by kernel_rfl),
PySem.W.mg_none_of X G (by kernel_rfl),
PySem.W.mg_none_of X G (by kernel_rfl)⟩
theorem cL1{P:Program}{w:World}{mg:Str->Option Value}{base:Heap}(T:Txt (Hd.KF w.params) mg adr):FnOk P w (Hd.KF w.params) mg base CX0 6 133 Hd.xL ["_law_script"] (aJ7 1 oJ):=by
 have G_law_take:=xD (P:=P) (w:=w) (base:=base) T
 have G_law_shuffled:=oK (P:=P) (w:=w) (base:=base) T G_law_take
 have G_law_some:=xE (P:=P) (w:=w) (base:=base) T G_law_shuffled G_law_take
 have V_law_take:=G_law_take.imp (aZ6 (K:=Hd.KF w.params))
 have V_law_some:=G_law_some.imp (aZ7 (K:=Hd.KF w.params))
 have G_law_round_sets:=(lH (P:=P) (w:=w) (base:=base) T V_law_take V_law_some).fz.imp (bW7 (K:=Hd.KF w.params))
 have G_law_plain_sets:=lQ (P:=P) (w:=w) (base:=base) T G_law_take G_law_some
 have G_law_names:=tQ (P:=P) (w:=w) (base:=base) T G_law_take
 have G_law_question:=oM (P:=P) (w:=w) (base:=base) T G_law_take G_law_round_sets G_law_plain_sets G_law_shuffled G_law_names
 have G_law_box:=aB8 (P:=P) (w:=w) (base:=base) T
 have G_law_holders:=pE (P:=P) (w:=w) (base:=base) T
 have G_law_begun:=tR (P:=P) (w:=w) (base:=base) T G_law_holders G_law_take
 have G_law_spoilt:=rM (P:=P) (w:=w) (base:=base) T G_law_take
 have G_law_truth:=tS (P:=P) (w:=w) (base:=base) T
 have G_law_shows:=tT (P:=P) (w:=w) (base:=base) T G_law_holders
 have G_without:=aB9 (P:=P) (w:=w) (base:=base) T
 have G_columns_of:=rN (P:=P) (w:=w) (base:=base) T
 have G_has_all:=aC0 (P:=P) (w:=w) (base:=base) T
 have G_holders_of:=rO (P:=P) (w:=w) (base:=base) T G_without G_columns_of G_has_all
 have G_ears_in:=aC1 (P:=P) (w:=w) (base:=base) T G_holders_of
 have G_ears_show:=tU (P:=P) (w:=w) (base:=base) T G_ears_in G_without
 have G_law:=cI8 (P:=P) (w:=w) (base:=base) T G_law_question G_law_box G_law_begun G_law_spoilt G_law_take G_law_truth G_law_shows G_ears_show
 exact G_law
theorem bG7:PySem.W.WalkO Hd.Vw [] (PySem.W.XL Hd.Vw []) (PySem.W.InK Hd.KF) PySem.Challenge.rw_mostrows_k47_ears_looked_at.row.toRowW Hd.cM7 [] (fun f vs=>PySem.call f vs):=by
 refine L2.bO1 (l:=PySem.Challenge.rw_mostrows_k47_ears_looked_at) (K:=Hd.KF) (n:=63) (k:=6) (x:="_law_script") (CX:=fun _=>CX0) (sp:=fun w=>aJ7 1 oJ) rfl (by decide) (by kernel_rfl) ⟨rfl,by decide,by decide⟩ (fun w h Y=>Y) (fun w mg fa h X G e=>?_) (fun w _ a ns hl hO hS=>aB7 (xA xC) (by kernel_rfl) hO hS (bG6 ns hl)) fun _ _ _ _ _ z=>z
 have T:=txt X G
 have e2:=T.m_law.symm.trans e
 cases e2
 exact⟨Hd.xL,fun s v=>.of_eq (by kernel_rfl),fun base _ _=>cL1 T⟩
end Mr
open PySem PySem.W PyProof.Rows
theorem PySem.Challenge.cw_mostrows_k47_ears_looked_at_holds : PySem.Challenge.rw_mostrows_k47_ears_looked_at.Holds :=
 Hd.cS8 Mr.bG7
#print axioms PySem.Challenge.cw_mostrows_k47_ears_looked_at_holds
