import Derived.Shelf.Strings.SlTrimAscii
import Derived.Shelf.Strings.Prefix
import Derived.Shelf.Strings.Trim
import Derived.Shelf.Small.Wraps
import Derived.Test.YtipdgmjplnibeaaGreatDoorShf
import Derived.Test.YtipdgmjplnibeaaGreatDoorG05
import Derived.Maps.OwnSet
import Derived.Maps.Views
namespace Go.Proofs
open Go.Shelf
def Tryz.lays160_ren:Go.Shelf.Ren:=⟨fun | 160=>260 | 232=>262 | 231=>233 | 227=>216 | 234=>263 | 233=>234 | 236=>264 | 235=>235 | 228=>217 | 271=>266 | 151=>250 | 197=>224 | 120=>267 | 152=>214 | 260=>247 | 137=>70 | 119=>239 | 224=>226 | 225=>225 | 217=>101 | 266=>135 | n=>n,fun | 9=>9 | 4=>4 | 3=>3 | 5=>5 | 117=>230 | 116=>229 | 0=>0 | 124=>251 | 21=>21 | 105=>240 | 46=>110 | 119=>270 | 139=>273 | 138=>272 | n=>n,fun | 3=>9 | 4=>10 | n=>n⟩
theorem Tryz.lays160:Go.Proofs.Lays.n160 Tryz.prog Tryz.lays160_ren:={
 mixed:=by kernel_rfl
 f119:=Tryz.func239.trans (congrArg some (by kernel_rfl))
 f120:=Tryz.func267.trans (congrArg some (by kernel_rfl))
 f137:=Tryz.func70.trans (congrArg some (by kernel_rfl))
 f151:=Tryz.func250.trans (congrArg some (by kernel_rfl))
 f152:=Tryz.func214.trans (congrArg some (by kernel_rfl))
 f160:=Tryz.func260.trans (congrArg some (by kernel_rfl))
 f197:=Tryz.func224.trans (congrArg some (by kernel_rfl))
 f217:=Tryz.func101.trans (congrArg some (by kernel_rfl))
 f224:=Tryz.func226.trans (congrArg some (by kernel_rfl))
 f225:=Tryz.func225.trans (congrArg some (by kernel_rfl))
 f227:=Tryz.func216.trans (congrArg some (by kernel_rfl))
 f228:=Tryz.func217.trans (congrArg some (by kernel_rfl))
 f231:=Tryz.func233.trans (congrArg some (by kernel_rfl))
 f232:=Tryz.func262.trans (congrArg some (by kernel_rfl))
 f233:=Tryz.func234.trans (congrArg some (by kernel_rfl))
 f234:=Tryz.func263.trans (congrArg some (by kernel_rfl))
 f235:=Tryz.func235.trans (congrArg some (by kernel_rfl))
 f236:=Tryz.func264.trans (congrArg some (by kernel_rfl))
 f260:=Tryz.func247.trans (congrArg some (by kernel_rfl))
 f266:=Tryz.func135.trans (congrArg some (by kernel_rfl))
 f271:=Tryz.func266.trans (congrArg some (by kernel_rfl))
 t0:=Tryz.underlying0
 a0:=Tryz.isAgg0
 z0:=Tryz.sizeOf0
 v0:=Tryz.zeroValue0
 t3:=Tryz.underlying3
 a3:=Tryz.isAgg3
 z3:=Tryz.sizeOf3
 v3:=Tryz.zeroValue3
 t4:=Tryz.underlying4
 a4:=Tryz.isAgg4
 z4:=Tryz.sizeOf4
 v4:=Tryz.zeroValue4
 t5:=Tryz.underlying5
 a5:=Tryz.isAgg5
 z5:=Tryz.sizeOf5
 v5:=Tryz.zeroValue5
 t9:=Tryz.underlying9
 a9:=Tryz.isAgg9
 z9:=Tryz.sizeOf9
 v9:=Tryz.zeroValue9
 t21:=Tryz.underlying21
 a21:=Tryz.isAgg21
 z21:=Tryz.sizeOf21
 v21:=Tryz.zeroValue21
 t46:=Tryz.underlying110
 a46:=Tryz.isAgg110
 z46:=Tryz.sizeOf110
 v46:=Tryz.zeroValue110
 t105:=Tryz.underlying240
 a105:=Tryz.isAgg240
 z105:=Tryz.sizeOf240
 v105:=Tryz.zeroValue240
 t116:=Tryz.underlying229
 a116:=Tryz.isAgg229
 z116:=Tryz.sizeOf229
 t117:=Tryz.underlying230
 a117:=Tryz.isAgg230
 z117:=Tryz.sizeOf230
 v117:=Tryz.zeroValue230
 t119:=Tryz.underlying270
 a119:=Tryz.isAgg270
 z119:=Tryz.sizeOf270
 t124:=Tryz.underlying251
 a124:=Tryz.isAgg251
 z124:=Tryz.sizeOf251
 v124:=Tryz.zeroValue251
 t138:=Tryz.underlying272
 a138:=Tryz.isAgg272
 z138:=Tryz.sizeOf272
 v138:=Tryz.zeroValue272
 t139:=Tryz.underlying273
 a139:=Tryz.isAgg273
 z139:=Tryz.sizeOf273
 v139:=Tryz.zeroValue273
 g3:=by kernel_rfl
 g4:=by kernel_rfl }
open Go.RowKit in
open Go.RowKit in
theorem Tryz.strings_Trim (s cutset:ByteArray) (w:World) (hs:s.size≤9223372036854775807) (hcs:cutset.size<4294967281) (hascii:∀ (j:Nat) b,cutset.data.toList[j]?=some b→b.toNat<128) :
  Calls Tryz.prog 260 #[.string s,.string cutset] w fun e w'=>e=.returned (.string ⟨(Lib.trimS s.data.toList cutset.data.toList).toArray⟩)∧Below w.heap.size w w':=Any.strings_Trim_laid Tryz.lays160 (by kernel_rfl) s cutset w hs hcs hascii
def Tryz.lays103_ren:Go.Shelf.Ren:=⟨fun | 103=>261 | 210=>265 | 206=>77 | n=>n,fun | 9=>9 | 4=>4 | 24=>44 | 3=>3 | n=>n,fun | n=>n⟩
theorem Tryz.lays103:Go.Proofs.Lays.n103 Tryz.prog Tryz.lays103_ren:={
 mixed:=by kernel_rfl
 f103:=Tryz.func261.trans (congrArg some (by kernel_rfl))
 f206:=Tryz.func77.trans (congrArg some (by kernel_rfl))
 f210:=Tryz.func265.trans (congrArg some (by kernel_rfl))
 t3:=Tryz.underlying3
 a3:=Tryz.isAgg3
 z3:=Tryz.sizeOf3
 v3:=Tryz.zeroValue3
 t4:=Tryz.underlying4
 a4:=Tryz.isAgg4
 z4:=Tryz.sizeOf4
 v4:=Tryz.zeroValue4
 t9:=Tryz.underlying9
 a9:=Tryz.isAgg9
 z9:=Tryz.sizeOf9
 v9:=Tryz.zeroValue9
 t24:=Tryz.underlying44
 a24:=Tryz.isAgg44
 z24:=Tryz.sizeOf44
 v24:=Tryz.zeroValue44 }
open Go.RowKit in
theorem Tryz.strings_CutPrefix (s p:ByteArray) (w:World) :
  Calls Tryz.prog 261 #[.string s,.string p] w fun e w'=>e=.returned (.tuple #[.string ⟨(Lib.trimPrefix s.data.toList p.data.toList).toArray⟩,.bool (Lib.hasPrefix s.data.toList p.data.toList)])∧w'=w:=Any.strings_CutPrefix Tryz.lays103 s p w
end Go.Proofs
namespace Go.Proofs.YtipdgmjplnibeaaGreatDoor
open Go.RowKit Go.Maps
namespace Ar
def blank (c:UInt8):Bool:=[32,9,10].contains c
def longs:List L:=[[124,124],[38,38],[61,61],[33,61],[60,61],[62,61],[60,60],[62,62],[36,123]]
def rows:List (List L):=[[[124,124]],[[38,38]],[[124]],[[94]],[[38]],[[61,61],[33,61]],[[60],[60,61],[62],[62,61]],[[60,60],[62,62]],[[43],[45]],[[42],[47],[37]]]
def size (l:L):Nat:=if longs.any (Lib.hasPrefix l ·) then 2 else max (l.takeWhile nm).length (min l.length 1)
structure St where
 tok:L
 left:L
 deep:Nat
 idle:Nat
 ft:Nat
def pass (s:St):St:={ s with tok:=(s.left.dropWhile blank).take (size (s.left.dropWhile blank)),left:=(s.left.dropWhile blank).drop (size (s.left.dropWhile blank)) }
def enter (s:St):St:=pass { s with deep:=s.deep+1 }
def leave (s:St):St:={ s with deep:=s.deep-1 }
def blame (e:Nat) (s:St):St:=if s.idle=0 then { s with ft:=if s.ft=0 then e else s.ft } else s
def rest (s:St) (b:Bool):St:=if b then s else { s with idle:=s.idle+1 }
def back (s:St) (b:Bool):St:=if b then s else { s with idle:=s.idle-1 }
def rowOf (t:L):Int:=match rows.findIdx? (·.contains t) with
 | some i=>i
 | none=>-1
def bit (b:Bool):Int:=if b then 1 else 0
def op2 (t:L) (a b:Int):Int:=
 if t=[124,124] then bit (a != 0 || b != 0) else if t=[38,38] then bit (a != 0 && b != 0)
 else if t=[124] then bits .or .i64 a b else if t=[94] then bits .xor .i64 a b else if t=[38] then bits .and .i64 a b
 else if t=[61,61] then bit (a==b) else if t=[33,61] then bit (a != b)
 else if t=[60] then bit (decide (a<b)) else if t=[60,61] then bit (decide (a≤b)) else if t=[62] then bit (decide (b<a)) else if t=[62,61] then bit (decide (b≤a))
 else if t=[60,60] then wrap64 (a*2 ^ (bits .and .i64 b 63).toNat) else if t=[62,62] then a / 2 ^ (bits .and .i64 b 63).toNat
 else if t=[43] then wrap64 (a+b) else if t=[45] then wrap64 (a-b) else if t=[42] then wrap64 (a*b)
 else if t=[47] then wrap64 (a.tdiv (if b=0 then 1 else b)) else a.tmod (if b=0 then 1 else b)
def div0 (t:L) (b:Int) (s:St):St:=if (t=[47]∨t=[37])∧b=0 then blame 22 s else s
def op1 (t:L) (a:Int):Int:=if t=[33] then bit (a==0) else if t=[126] then bits .xor .i64 (-1) a else if t=[43] then a else wrap64 (-a)
def needs (t:L) (n:Int):Bool:=if t=[124,124] then n==0 else if t=[38,38] then n != 0 else true
def dv (c:UInt8):Nat:=if dig c then c.toNat-48 else (c ||| 32).toNat-87
def isD (b:Nat) (c:UInt8):Bool:=(dig c || (decide (97≤c ||| 32) && decide (c ||| 32≤122))) && decide (dv c<b)
def val (b:Nat) (l:L):Nat:=l.foldl (fun n c=>n*b+dv c) 0
def num (l:L):Option Nat:=
 let (d,b):=if Lib.hasPrefix l [48,120] || Lib.hasPrefix l [48,88] then (l.drop 2,16) else if Lib.hasPrefix l [48] then (l,8) else (l,10)
 if d≠[]∧d.all (isD b)=true∧val b d<9223372036854775808 then some (val b d) else none
def trim (l:L):L:=Lib.trimS l [32,9,10]
def numV (l:L):Option Int:=
 let t:=trim l
 if t=[] then some 0 else if Lib.hasPrefix t [45] then (num (Lib.trimPrefix t [45])).map (fun n:Nat=>wrap64 (-(n:Int))) else (num (Lib.trimPrefix t [43])).map (fun n:Nat=>(n:Int))
abbrev Vars:=List (L×L)
def find (vs:Vars) (t:L):Option L:=(vs.find? (·.1==t)).map (·.2)
def look (vs:Vars) (t:L):Option Int:=match find vs t with
 | none=>some 0
 | some v=>numV v
mutual
inductive Ex (vs:Vars):Nat→St→Int→St→Prop
 | plain {k j:Nat} {s t:St} {n:Int}:j<k→Bt vs j 0 s n t→t.tok≠[63]→Ex vs k s n t
 | cond {k j i l:Nat} {s t u v:St} {n y z:Int}:j<k→i<k→l<k→Bt vs j 0 s n t→t.tok=[63]→t.deep<40→Ex vs i (rest (enter t) (n != 0)) y u→u.tok=[58]→Ex vs l (rest (pass (back u (n != 0))) (n==0)) z v→Ex vs k s (if n != 0 then y else z) (leave (back v (n==0)))
inductive Bt (vs:Vars):Nat→Nat→St→Int→St→Prop
 | mk {k j i least:Nat} {s t u:St} {n m:Int}:j<k→i<k→Sg vs j s n t→Lp vs i least n t m u→Bt vs k least s m u
inductive Lp (vs:Vars):Nat→Nat→Int→St→Int→St→Prop
 | done {k least:Nat} {n:Int} {s:St}:rowOf s.tok<least→Lp vs k least n s n s
 | more {k j i least row:Nat} {n m x:Int} {s t u:St}:j<k→i<k→rowOf s.tok=row→least≤row→Bt vs j (row+1) (rest (pass s) (needs s.tok n)) m t→Lp vs i least (op2 s.tok n m) (div0 s.tok m (back t (needs s.tok n))) x u→Lp vs k least n s x u
inductive Sg (vs:Vars):Nat→St→Int→St→Prop
 | un {k j:Nat} {s t:St} {n:Int}:j<k→s.tok∈[[33],[126],[43],[45]]→s.deep<40→Sg vs j (enter s) n t→Sg vs k s (op1 s.tok n) (leave t)
 | par {k j:Nat} {s t:St} {n:Int}:j<k→s.tok=[40]→s.deep<40→Ex vs j (enter s) n t→t.tok=[41]→Sg vs k s n (leave (pass t))
 | name {k:Nat} {s:St} {n:Int}:nameB s.tok=true→look vs s.tok=some n→Sg vs k s n (pass s)
 | dol {k:Nat} {s:St} {n:Int}:s.tok=[36]→nameB (pass s).tok=true→look vs (pass s).tok=some n→Sg vs k s n (pass (pass s))
 | brace {k:Nat} {s:St} {n:Int}:s.tok=[36,123]→nameB (pass s).tok=true→look vs (pass s).tok=some n→(pass (pass s)).tok=[125]→Sg vs k s n (pass (pass (pass s)))
 | num {k:Nat} {s:St} {n:Nat}:num s.tok=some n→Sg vs k s n (pass s)
end
def m (s:St):Nat:=s.tok.length+s.left.length
theorem m_pass (s:St):m (pass s)≤s.left.length:=by
 unfold m pass
 simp only[List.length_take,List.length_drop]
 have:(s.left.dropWhile blank).length≤s.left.length:=(List.dropWhile_suffix _).length_le
 omega
theorem pass_le (s:St):m (pass s)≤m s:=by have:=m_pass s;unfold m at *;omega
theorem m_rest (s:St) (b:Bool):m (rest s b)=m s:=by unfold rest;split <;> rfl
theorem m_back (s:St) (b:Bool):m (back s b)=m s:=by unfold back;split <;> rfl
theorem m_leave (s:St):m (leave s)=m s:=rfl
theorem m_blame (e:Nat) (s:St):m (blame e s)=m s:=by unfold blame;split <;> rfl
theorem m_div0 (t:L) (b:Int) (s:St):m (div0 t b s)=m s:=by unfold div0;split;exact m_blame _ _;rfl
theorem m_enter (s:St):m (enter s)≤m s:=pass_le _
theorem m_all (vs:Vars):∀ k,(∀ s n t,Ex vs k s n t→m t≤m s)∧(∀ l s n t,Bt vs k l s n t→m t≤m s)∧(∀ l a s n t,Lp vs k l a s n t→m t≤m s)∧(∀ s n t,Sg vs k s n t→m t≤m s):=by
 intro k
 induction k using Nat.strongRecOn with
 | ind k ih=>
  refine⟨fun s n t h=>?_,fun l s n t h=>?_,fun l a s n t h=>?_,fun s n t h=>?_⟩
  ·cases h with
   | plain hj h _=>exact(ih _ hj).2.1 _ _ _ _ h
   | @cond _ j i l _ t u v n y z hj hi hl h _ _ h1 _ h2=>
    have a1:=(ih _ hj).2.1 _ _ _ _ h
    have a2:=(ih _ hi).1 _ _ _ h1
    have a3:=(ih _ hl).1 _ _ _ h2
    rw[m_rest] at a2 a3
    have a4:=pass_le (back u (n != 0))
    rw[m_back] at a4
    rw[m_leave,m_back]
    have:=m_enter t
    omega
  ·cases h with
   | mk hj hi h1 h2=>exact Nat.le_trans ((ih _ hi).2.2.1 _ _ _ _ _ h2) ((ih _ hj).2.2.2 _ _ _ h1)
  ·cases h with
   | done=>exact Nat.le_refl _
   | more hj hi _ _ h1 h2=>
    have a1:=(ih _ hj).2.1 _ _ _ _ h1
    have a2:=(ih _ hi).2.2.1 _ _ _ _ _ h2
    rw[m_rest] at a1
    rw[m_div0,m_back] at a2
    have:=pass_le s
    omega
  ·cases h with
   | un hj _ _ h=>
    have a1:=(ih _ hj).2.2.2 _ _ _ h
    have:=m_enter s
    rw[m_leave]
    omega
   | @par _ _ _ t _ hj _ _ h _=>
    have a1:=(ih _ hj).1 _ _ _ h
    have:=m_enter s
    have:=pass_le t
    rw[m_leave]
    omega
   | name=>exact pass_le _
   | dol=>exact Nat.le_trans (pass_le _) (pass_le _)
   | brace=>exact Nat.le_trans (pass_le _) (Nat.le_trans (pass_le _) (pass_le _))
   | num=>exact pass_le _
theorem Bt.m {vs:Vars} {k l:Nat} {s t:St} {n:Int} (h:Bt vs k l s n t):Ar.m t≤Ar.m s:=(m_all vs k).2.1 _ _ _ _ h
theorem idle_rest_back {s t:St} {b:Bool} (h:t.idle=(rest s b).idle):(back t b).idle=s.idle:=by
 unfold rest back at *
 cases b
 ·simp only[Bool.false_eq_true,if_false] at *;omega
 ·exact h
theorem deep_rest (s:St) (b:Bool):(rest s b).deep=s.deep:=by unfold rest;split <;> rfl
theorem deep_back (s:St) (b:Bool):(back s b).deep=s.deep:=by unfold back;split <;> rfl
theorem div0_idle (t:L) (b:Int) (s:St):(div0 t b s).idle=s.idle∧(div0 t b s).deep=s.deep:=by unfold div0 blame;split;split <;> exact⟨rfl,rfl⟩;exact⟨rfl,rfl⟩
theorem keep_all (vs:Vars):∀ k,(∀ s n t,Ex vs k s n t→t.idle=s.idle∧t.deep=s.deep)∧(∀ l s n t,Bt vs k l s n t→t.idle=s.idle∧t.deep=s.deep)∧(∀ l a s n t,Lp vs k l a s n t→t.idle=s.idle∧t.deep=s.deep)∧(∀ s n t,Sg vs k s n t→t.idle=s.idle∧t.deep=s.deep):=by
 intro k
 induction k using Nat.strongRecOn with
 | ind k ih=>
  refine⟨fun s n t h=>?_,fun l s n t h=>?_,fun l a s n t h=>?_,fun s n t h=>?_⟩
  ·cases h with
   | plain hj h _=>exact(ih _ hj).2.1 _ _ _ _ h
   | @cond _ j i l _ t u v n y z hj hi hl h _ _ h1 _ h2=>
    have a1:=(ih _ hj).2.1 _ _ _ _ h
    have a2:=(ih _ hi).1 _ _ _ h1
    have a3:=(ih _ hl).1 _ _ _ h2
    have b1:=idle_rest_back a2.1
    have b2:=idle_rest_back a3.1
    rw[deep_rest] at a2 a3
    have c1:(pass (back u (n != 0))).deep=(back u (n != 0)).deep:=rfl
    have c2:=deep_back u (n != 0)
    have c3:=deep_back v (n==0)
    have c4:(enter t).deep=t.deep+1:=rfl
    have c5:(enter t).idle=t.idle:=rfl
    have c6:(pass (back u (n != 0))).idle=(back u (n != 0)).idle:=rfl
    show (back v (n==0)).idle=_∧(back v (n==0)).deep-1=_
    omega
  ·cases h with
   | mk hj hi h1 h2=>
    have a1:=(ih _ hj).2.2.2 _ _ _ h1
    have a2:=(ih _ hi).2.2.1 _ _ _ _ _ h2
    omega
  ·cases h with
   | done=>exact⟨rfl,rfl⟩
   | @more _ j i _ row _ m _ _ t _ hj hi _ _ h1 h2=>
    have a1:=(ih _ hj).2.1 _ _ _ _ h1
    have a2:=(ih _ hi).2.2.1 _ _ _ _ _ h2
    have b1:=idle_rest_back a1.1
    rw[deep_rest] at a1
    have c2:=deep_back t (needs s.tok a)
    have c3:=div0_idle s.tok m (back t (needs s.tok a))
    have c1:(pass s).deep=s.deep:=rfl
    have c4:(pass s).idle=s.idle:=rfl
    omega
  ·cases h with
   | @un _ j _ t _ hj _ _ h=>
    have a1:=(ih _ hj).2.2.2 _ _ _ h
    have c1:(enter s).deep=s.deep+1:=rfl
    have c2:(enter s).idle=s.idle:=rfl
    show t.idle=_∧t.deep-1=_
    omega
   | @par _ _ _ t _ hj _ _ h _=>
    have a1:=(ih _ hj).1 _ _ _ h
    have c1:(enter s).deep=s.deep+1:=rfl
    have c2:(enter s).idle=s.idle:=rfl
    show t.idle=_∧t.deep-1=_
    omega
   | name=>exact⟨rfl,rfl⟩
   | dol=>exact⟨rfl,rfl⟩
   | brace=>exact⟨rfl,rfl⟩
   | num=>exact⟨rfl,rfl⟩
end Ar
end Go.Proofs.YtipdgmjplnibeaaGreatDoor
namespace Go.Proofs.YtipdgmjplnibeaaGreatDoor
open Go.RowKit Go.Maps
namespace Ar
def heldR (v:Value):Option (DataW Value×List MemPlace):=some (.held v,[])
def TabS (W:World) (m k:Nat) (f:L→Option Value):Prop:=
 ∃ D n,W.ownsMap Tryz.prog 9 heldR m n D∧n≤k∧∀ c,Maps.has D (.string c)=(f c).isSome∧∀ z,D.atKey (.string c) (.held z)=.held ((f c).getD z)
theorem str_keyed:Keyed Tryz.prog 9:=string_keyed Tryz.underlying9
theorem keyOf_str (t:L) (ht:t.length≤5000):keyOf Tryz.prog 9 (sv t)=some (.string t):=by
 have h1:(mkS t).size≤maxLen:=by rw[mkS_size];unfold maxLen;omega
 rw[keyOf_string Tryz.underlying9]
 simp[sv,mapKey,Tryz.underlying9,h1,mkS_list]
theorem TabS.kept {W W':World} {m k:Nat} {f:L→Option Value} {row:Option Nat} (h:TabS W m k f) (hg:W.grownBy W' row) (hne:some m≠row):TabS W' m k f:=by
 obtain⟨D,n,h1,h2,h3⟩:=h
 exact⟨D,n,h1.kept hg hne,h2,h3⟩
theorem TabS.lt {W:World} {m k:Nat} {f:L→Option Value} (h:TabS W m k f):m<W.heap.size:=by
 obtain⟨D,n,h1,_⟩:=h
 exact h1.lt
theorem TabS.look {W:World} {m k:Nat} {f:L→Option Value} (h:TabS W m k f) (c:L) (hc:c.length≤5000):(Instr.lookup 186 (.map (some m)) (.string (mkS c)) true).run Tryz.prog W=.ok (.tuple #[(f c).getD .nilFunc,.bool (f c).isSome]) W:=by
 obtain⟨D,k,h1,_,h3⟩:=h
 obtain⟨v,ps,hrun,hv⟩:=World.ownsMap.look_ok (w:=W) h1 str_keyed Tryz.underlying186 (z:=.nilFunc) (by kernel_rfl) (zd:=.held .nilFunc) (zp:=[]) rfl (keyOf_str c hc)
 rw[(h3 c).2 .nilFunc] at hv
 simp only[heldR,Option.some.injEq,Prod.mk.injEq,DataW.held.injEq] at hv
 rw[show (Value.string (mkS c))=sv c from rfl,hrun,hv.1,(h3 c).1]
theorem TabS.look2 {W:World} {m k:Nat} {f:L→Option Value} (h:TabS W m k f) (c:L) (hc:c.length≤5000):(Instr.lookup 187 (.map (some m)) (.string (mkS c)) false).run Tryz.prog W=.ok ((f c).getD .nilFunc) W:=by
 obtain⟨D,k,h1,_,h3⟩:=h
 obtain⟨v,ps,hrun,hv⟩:=World.ownsMap.lookup (w:=W) h1 str_keyed Tryz.underlying187 (z:=.nilFunc) (by kernel_rfl) (zd:=.held .nilFunc) (zp:=[]) rfl (keyOf_str c hc)
 rw[(h3 c).2 .nilFunc] at hv
 simp only[heldR,Option.some.injEq,Prod.mk.injEq,DataW.held.injEq] at hv
 rw[show (Value.string (mkS c))=sv c from rfl,hrun,hv.1]
def fn0 (f:Nat):Value:=.func (.func f) #[] #[]
def aheadT (t:L):Option Value:=if t=[33] then some (fn0 183) else if t=[126] then some (fn0 185) else if t=[43] then some (fn0 186) else if t=[45] then some (fn0 187) else none
def fnB (f b:Nat):Value:=.func (.func f) #[] #[.pointer (some ⟨b,0,none⟩)]
def pairT (b:Nat) (t:L):Option Value:=
 if t=[124,124] then some (fn0 188) else if t=[38,38] then some (fn0 189)
 else if t=[124] then some (fn0 190) else if t=[94] then some (fn0 191) else if t=[38] then some (fn0 192)
 else if t=[61,61] then some (fn0 193) else if t=[33,61] then some (fn0 194)
 else if t=[60] then some (fn0 195) else if t=[60,61] then some (fn0 196) else if t=[62] then some (fn0 197) else if t=[62,61] then some (fn0 198)
 else if t=[60,60] then some (fn0 199) else if t=[62,62] then some (fn0 200)
 else if t=[43] then some (fn0 201) else if t=[45] then some (fn0 202) else if t=[42] then some (fn0 203)
 else if t=[47] then some (fnB 204 b) else if t=[37] then some (fnB 206 b) else none
structure Ct where
 ma:Nat
 mb:Nat
 bx:Nat
 v:Value
 vs:Vars
def flat (vs:Vars):List Value:=vs.flatMap fun p=>[sv p.1,sv p.2]
def rowA (C:Ct) (s:St):Array Value:=#[sv s.tok,sv s.left,C.v,.int .i64 (s.deep:Int),.int .i64 (s.idle:Int),.int .i64 0,.int .i64 (s.ft:Int),.map (some C.ma),.map (some C.mb)]
def VarsAt (W:World) (g:Nat) (v:Value) (vs:Vars):Prop:=
 (vs=[]∧∃ A c,v=.slice A 0 c)∨∃ b o c,b≠g∧v=.slice (some ⟨b,o,none⟩) vs.length c∧∀ (k:Nat) (h:k<vs.length),W.cell? ⟨b,o+k*2,none⟩=some (.string (mkS vs[k].1))∧W.cell? ⟨b,o+k*2+1,none⟩=some (.string (mkS vs[k].2))
theorem cell_only {W W':World} {g:Nat} {p:Addr} {v:Value} (hg:W.grownBy W' (some g)) (hp:p.block≠g) (h:W.cell? p=some v):W'.cell? p=some v:=by
 rw[←h]
 unfold World.cell?
 rw[hg.block p.block (World.block_lt_of_cell? W p h) (fun e=>hp (by injection e))]
structure Tb (W:World) (g:Nat):Prop where
 nl:7≠g
 nr:8≠g
 lg:∀ i:Nat,i<9→W.cell? ⟨7,i,none⟩=some (.string (mkS (longs.getD i [])))
 rw:∃ (ad:Nat→Addr) (cp:Nat→Nat),∀ i:Nat,i<10→(ad i).block≠g∧W.cell? ⟨8,i,none⟩=some (.slice (some (ad i)) (rows.getD i []).length (cp i))∧∀ j:Nat,j<(rows.getD i []).length→W.cell? ((ad i).add j)=some (.string (mkS ((rows.getD i []).getD j [])))
theorem Tb.kept {W W':World} {g:Nat} (h:Tb W g) (hg:W.grownBy W' (some g)):Tb W' g:=by
 obtain⟨h1,h2,h3,ad,cp,h4⟩:=h
 refine⟨h1,h2,fun i hi=>cell_only hg h1 (h3 i hi),ad,cp,fun i hi=>⟨(h4 i hi).1,cell_only hg h2 (h4 i hi).2.1,fun j hj=>cell_only hg ?_ ((h4 i hi).2.2 j hj)⟩⟩
 rw[block_add]
 exact(h4 i hi).1
structure En (W:World) (g:Nat) (C:Ct):Prop where
 ta:TabS W C.ma 30 aheadT
 tb:TabS W C.mb 30 (pairT C.bx)
 na:C.ma≠g
 nb:C.mb≠g
 nx:C.bx≠g
 bx:W.heap[C.bx]?=some (.cells #[.pointer (some ⟨g,0,none⟩)] 183 (0,0))
 va:VarsAt W g C.v C.vs
 sm:∀ p∈C.vs,p.1.length≤4000∧p.2.length≤4000
 few:C.vs.length≤4000
 tbs:Tb W g
structure RM (W:World) (g:Nat) (C:Ct) (s:St):Prop where
 box:W.heap[g]?=some (.cells (rowA C s) 189 (0,0))
 en:En W g C
 deep:s.deep≤40
 sml:m s+s.idle≤4000
section
variable {W W':World} {g:Nat} {C:Ct} {s s':St}
theorem VarsAt.kept {v:Value} {vs:Vars} (h:VarsAt W g v vs) (hg:W.grownBy W' (some g)):VarsAt W' g v vs:=by
 rcases h with h | ⟨b,o,c,h1,h2,h3⟩
 ·exact .inl h
 ·exact .inr ⟨b,o,c,h1,h2,fun k hk=>⟨cell_only hg h1 (h3 k hk).1,cell_only hg h1 (h3 k hk).2⟩⟩
theorem En.kept (h:En W g C) (hg:W.grownBy W' (some g)):En W' g C:=
 ⟨h.ta.kept hg (fun e=>h.na (by injection e)),h.tb.kept hg (fun e=>h.nb (by injection e)),h.na,h.nb,h.nx,(hg.block _ (lt_of_block h.bx) (fun e=>h.nx (by injection e))).trans h.bx,h.va.kept hg,h.sm,h.few,h.tbs.kept hg⟩
theorem RM.later (h:RM W g C s) (hl:Later W W'):RM W' g C s:=
 ⟨later_cells hl h.box,h.en.kept (grown_of_later hl _),h.deep,h.sml⟩
theorem RM.lt (h:RM W g C s):g<W.heap.size:=lt_of_block h.box
theorem RM.turn (h:RM W g C s) (hg:W.grownBy W' (some g)) (hb:W'.heap[g]?=some (.cells (rowA C s') 189 (0,0))) (hd:s'.deep≤40) (hs:m s'+s'.idle≤4000):RM W' g C s':=⟨hb,h.en.kept hg,hd,hs⟩
theorem RM.facts (h:RM W g C s):(W.cell? ⟨g,0,none⟩=some (.string (mkS s.tok))∧W.cell? ⟨g,1,none⟩=some (.string (mkS s.left))∧W.cell? ⟨g,2,none⟩=some C.v∧W.cell? ⟨g,3,none⟩=some (.int .i64 (s.deep:Int))∧W.cell? ⟨g,4,none⟩=some (.int .i64 (s.idle:Int))∧W.cell? ⟨g,5,none⟩=some (.int .i64 0)∧W.cell? ⟨g,6,none⟩=some (.int .i64 (s.ft:Int))∧W.cell? ⟨g,7,none⟩=some (.map (some C.ma))∧W.cell? ⟨g,8,none⟩=some (.map (some C.mb)))∧∀ i,W.frozen? ⟨g,i,none⟩=false:=
 ⟨⟨(cell_row h.box 0).1,(cell_row h.box 1).1,(cell_row h.box 2).1,(cell_row h.box 3).1,(cell_row h.box 4).1,(cell_row h.box 5).1,(cell_row h.box 6).1,(cell_row h.box 7).1,(cell_row h.box 8).1⟩,fun i=>(cell_row h.box i).2⟩
theorem RM.tok_len (h:RM W g C s):s.tok.length≤4000∧s.left.length≤4000∧s.idle≤4000:=by have:=h.sml;unfold m at this;omega
end
theorem only_trans {a b c:World} {g:Nat} (h:a.grownBy b (some g)) (k:b.grownBy c (some g)):a.grownBy c (some g):=
 ⟨k.os.trans h.os,k.tape.trans h.tape,k.output.trans h.output,Nat.le_trans h.size k.size,fun i hi hne=>(k.block i (Nat.lt_of_lt_of_le hi h.size) hne).trans (h.block i hi hne)⟩
theorem only_later {a b c:World} {g:Nat} (h:a.grownBy b (some g)) (k:Later b c):a.grownBy c (some g):=only_trans h (grown_of_later k _)
theorem only_refl (a:World) (g:Nat):a.grownBy a (some g):=grown_of_later (Later.refl a) _
def Rt (W:World) (g:Nat) (C:Ct) (v:Value) (s:St) (e:Ending) (W':World):Prop:=e=.returned v∧RM W' g C s∧W.grownBy W' (some g)
end Ar
end Go.Proofs.YtipdgmjplnibeaaGreatDoor
