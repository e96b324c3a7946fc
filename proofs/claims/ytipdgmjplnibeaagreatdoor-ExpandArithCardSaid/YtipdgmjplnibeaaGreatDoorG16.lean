import Derived.Test.YtipdgmjplnibeaaGreatDoorShf
import Derived.Shelf.Small.Strs
import Derived.Shelf.Strings.Repeat
import Derived.Test.YtipdgmjplnibeaaGreatDoorProg
import Derived.Lib.Bytealg
import Derived.BigQuiet
import Derived.Test.YtipdgmjplnibeaaGreatDoorG13
import Derived.Test.YtipdgmjplnibeaaGreatDoorG03
import Derived.Lib.Builder
import Derived.Lib.UnsafeStr
import Derived.Deep.AppendLies
import Derived.Deep.RegionHeld
import Derived.Laws.Entries
import Derived.ProofKit
import Derived.Maps.OwnRows
set_option maxRecDepth 100000
set_option maxHeartbeats 3200000
namespace Go.Proofs
open Go.Shelf
def Tryz.lays105_ren:Go.Shelf.Ren:=⟨fun | 105=>159 | 212=>181 | 99=>50 | 165=>65 | 166=>66 | 170=>182 | 169=>67 | 263=>230 | 264=>231 | 206=>77 | 240=>97 | 241=>98 | 276=>127 | 277=>128 | n=>n,fun | 9=>9 | 3=>3 | 4=>4 | 20=>20 | 0=>0 | 46=>110 | 109=>219 | 5=>5 | 72=>118 | 76=>122 | 51=>200 | 146=>245 | 53=>124 | 148=>247 | 70=>116 | 37=>81 | 75=>121 | 127=>152 | 164=>175 | 80=>63 | n=>n,fun | n=>n⟩
theorem Tryz.lays105:Go.Proofs.Lays.n105 Tryz.prog Tryz.lays105_ren:={
 mixed:=by kernel_rfl
 f99:=Tryz.func50.trans (congrArg some (by kernel_rfl))
 f105:=Tryz.func159.trans (congrArg some (by kernel_rfl))
 f165:=Tryz.func65.trans (congrArg some (by kernel_rfl))
 f166:=Tryz.func66.trans (congrArg some (by kernel_rfl))
 f169:=Tryz.func67.trans (congrArg some (by kernel_rfl))
 f170:=Tryz.func182.trans (congrArg some (by kernel_rfl))
 f206:=Tryz.func77.trans (congrArg some (by kernel_rfl))
 f212:=Tryz.func181.trans (congrArg some (by kernel_rfl))
 f240:=Tryz.func97.trans (congrArg some (by kernel_rfl))
 f241:=Tryz.func98.trans (congrArg some (by kernel_rfl))
 f263:=Tryz.func230.trans (congrArg some (by kernel_rfl))
 f264:=Tryz.func231.trans (congrArg some (by kernel_rfl))
 f276:=Tryz.func127.trans (congrArg some (by kernel_rfl))
 f277:=Tryz.func128.trans (congrArg some (by kernel_rfl))
 t0:=Tryz.underlying0
 a0:=Tryz.isAgg0
 z0:=Tryz.sizeOf0
 v0:=Tryz.zeroValue0
 t3:=Tryz.underlying3
 a3:=Tryz.isAgg3
 z3:=Tryz.sizeOf3
 v3:=Tryz.zeroValue3
 t4:=Tryz.underlying4
 a4:=Tryz.isAgg4
 z4:=Tryz.sizeOf4
 v4:=Tryz.zeroValue4
 t5:=Tryz.underlying5
 a5:=Tryz.isAgg5
 z5:=Tryz.sizeOf5
 v5:=Tryz.zeroValue5
 t9:=Tryz.underlying9
 a9:=Tryz.isAgg9
 z9:=Tryz.sizeOf9
 v9:=Tryz.zeroValue9
 t20:=Tryz.underlying20
 a20:=Tryz.isAgg20
 z20:=Tryz.sizeOf20
 v20:=Tryz.zeroValue20
 t37:=Tryz.underlying81
 a37:=Tryz.isAgg81
 z37:=Tryz.sizeOf81
 v37:=Tryz.zeroValue81
 t46:=Tryz.underlying110
 a46:=Tryz.isAgg110
 z46:=Tryz.sizeOf110
 v46:=Tryz.zeroValue110
 t51:=Tryz.underlying200
 a51:=Tryz.isAgg200
 z51:=Tryz.sizeOf200
 v51:=Tryz.zeroValue200
 t53:=Tryz.underlying124
 a53:=Tryz.isAgg124
 z53:=Tryz.sizeOf124
 v53:=Tryz.zeroValue124
 t70:=Tryz.underlying116
 a70:=Tryz.isAgg116
 z70:=Tryz.sizeOf116
 v70:=Tryz.zeroValue116
 t72:=Tryz.underlying118
 a72:=Tryz.isAgg118
 z72:=Tryz.sizeOf118
 v72:=Tryz.zeroValue118
 t75:=Tryz.underlying121
 a75:=Tryz.isAgg121
 z75:=Tryz.sizeOf121
 v75:=Tryz.zeroValue121
 t76:=Tryz.underlying122
 a76:=Tryz.isAgg122
 z76:=Tryz.sizeOf122
 v76:=Tryz.zeroValue122
 t109:=Tryz.underlying219
 a109:=Tryz.isAgg219
 z109:=Tryz.sizeOf219
 v109:=Tryz.zeroValue219
 t127:=Tryz.underlying152
 a127:=Tryz.isAgg152
 z127:=Tryz.sizeOf152
 v127:=Tryz.zeroValue152
 t146:=Tryz.underlying245
 a146:=Tryz.isAgg245
 z146:=Tryz.sizeOf245
 v146:=Tryz.zeroValue245
 t148:=Tryz.underlying247
 a148:=Tryz.isAgg247
 z148:=Tryz.sizeOf247
 v148:=Tryz.zeroValue247
 t164:=Tryz.underlying175
 a164:=Tryz.isAgg175
 z164:=Tryz.sizeOf175
 v164:=Tryz.zeroValue175 }
theorem Tryz.Builder_Extra_105:Builder.Extra Tryz.prog Tryz.lays105_ren:={
 sizeBuilder:=by kernel_rfl
 liesBuilder:=by kernel_rfl
 t5:=Tryz.underlying5
 a5:=Tryz.isAgg5
 z5:=Tryz.sizeOf5
 v5:=Tryz.zeroValue5
 infoByte:=by kernel_rfl
 cellsByte:=by kernel_rfl
 sizeByte:=by kernel_rfl
 neB5:=by decide }
open Go.RowKit Go.Lib in
theorem Tryz.strings_Repeat (s:ByteArray) (c:Nat) (w:World) (hc:c≤9223372036854775807) (hlen:s.size*c≤140737488355328) :
  Calls Tryz.prog 159 #[.string s,.int .i64 c] w fun e w'=>e=.returned (.string ⟨(Lib.repeatL s.data.toList c).toArray⟩)∧Below w.heap.size w w':=Any.strings_Repeat Tryz.lays105 Tryz.Builder_Extra_105 s c w hc hlen
end Go.Proofs
namespace Go.Proofs.YtipdgmjplnibeaaGreatDoor
open Go.RowKit
namespace Jo
abbrev C2:=UInt8×UInt8
def cl (p:C2):Value:=.agg #[bv p.1,bv p.2]
def cs (z:List C2):List Value:=z.flatMap fun p=>[bv p.1,bv p.2]
theorem cs_len (z:List C2):(cs z).length=z.length*2:=by
 unfold cs
 induction z with
 | nil=>rfl
 | cons y l ih=>rw[List.flatMap_cons,List.length_append,ih];simp;omega
theorem cs_app (z:List C2) (y:C2):cs (z++[y])=cs z++[bv y.1,bv y.2]:=by simp[cs]
theorem cs_at:∀ (z:List C2) (j:Nat) (h:j<z.length),(cs z)[j*2]?=some (bv z[j].1)∧(cs z)[j*2+1]?=some (bv z[j].2)
 | [],j,h=>by simp at h
 | y::l,0,_=>by simp[cs]
 | y::l,j+1,h=>by
  have:=cs_at l j (by simpa using h)
  have e:cs (y::l)=[bv y.1,bv y.2]++cs l:=rfl
  rw[e,List.getElem?_append_right (by simp;omega),List.getElem?_append_right (by simp;omega)]
  simp only[List.length_cons,List.length_nil,List.getElem_cons_succ]
  rw[show (j+1)*2-(0+1+1)=j*2 by omega,show (j+1)*2+1-(0+1+1)=j*2+1 by omega]
  exact this
def kindN (ifs:L) (p:C2):Nat:=if p.2=101 then 1 else if p.2=98 then 2 else if sepB ifs p=true then (if whiteB p.1=true then 3 else 4) else 0
theorem index_neg (l:L) (c:UInt8):(Lib.indexByte l c<0)↔c∉l:=by
 induction l with
 | nil=>simp[Lib.indexByte]
 | cons a l ih=>
  have hge:=Lib.indexByte_ge l c
  unfold Lib.indexByte
  by_cases h:a=c
  ·subst h;simp
  ·have hb:(a==c)=false:=by simpa using h
   rw[hb,List.mem_cons,not_or,←ih]
   have h2:¬ c=a:=fun e=>h e.symm
   by_cases h3:Lib.indexByte l c=-1
   ·simp[h3,h2]
   ·simp[h3,h2]
    omega
theorem nat8 {c:UInt8} {n:Nat} (hn:n<256):c.toNat=n↔c=UInt8.ofNat n:=by
 constructor
 ·intro h;rw[←h];simp
 ·intro h;rw[h];simp;omega
theorem eq8 (c:UInt8) (n:Nat) (hn:n<256):(((c.toNat:Int)==(n:Int))=decide (c=UInt8.ofNat n))∧(((c.toNat:Int) != (n:Int))=!decide (c=UInt8.ofNat n)):=by
 have h:((c.toNat:Int)=(n:Int))↔c=UInt8.ofNat n:=by rw[←nat8 hn];omega
 constructor
 ·rw[Bool.eq_iff_iff,beq_iff_eq,decide_eq_true_iff];exact h
 ·unfold bne
  congr 1
  rw[Bool.eq_iff_iff,beq_iff_eq,decide_eq_true_iff];exact h
theorem toNat8 (c:UInt8):(c.toNat:Int).toNat.toUInt8=c:=by simp
theorem kind_v (ifs:L) (p:C2) (w:World):Calls Tryz.prog 90 #[cl p,.string (mkS ifs)] w fun e w'=>e=.returned (.int .i64 (kindN ifs p:Int))∧Later w w':=by
 obtain⟨c,m⟩:=p
 unfold cl kindN
 simp only[bv]
 have hl:=Later.alloc w (.cells #[.int .u8 (c.toNat:Int),.int .u8 (m.toNat:Int)] 146)
 have h101:((m.toNat:Int)==101)=decide (m=101):=(eq8 m 101 (by decide)).1
 have h98:((m.toNat:Int)==98)=decide (m=98):=(eq8 m 98 (by decide)).1
 have h115:((m.toNat:Int) != 115)=!decide (m=115):=(eq8 m 115 (by decide)).2
 have HI:=Lib.hid (fun W=>Tryz.strings_IndexByte (mkS ifs) (c.toNat:Int) W)
 have HJ:=Lib.hid (fun W=>Tryz.strings_IndexByte ⟨#[32,9,10]⟩ (c.toNat:Int) W)
 by_cases e1:m=101
 ·have f1:((m.toNat:Int)==101)=true:=by rw[h101];simpa using e1
  rw[if_pos e1]
  clear h101 h98 h115 e1
  go_enter Tryz.func90,Tryz.ntmps90
  go_wp2
  go_ret
  exact⟨rfl,hl⟩
 have f1:((m.toNat:Int)==101)=false:=by rw[h101];simpa using e1
 rw[if_neg e1]
 by_cases e2:m=98
 ·have f2:((m.toNat:Int)==98)=true:=by rw[h98];simpa using e2
  rw[if_pos e2]
  clear h101 h98 h115 e1 e2
  go_enter Tryz.func90,Tryz.ntmps90
  go_wp2
  go_ret
  exact⟨rfl,hl⟩
 have f2:((m.toNat:Int)==98)=false:=by rw[h98];simpa using e2
 rw[if_neg e2]
 by_cases e3:m=115
 ·have f3:((m.toNat:Int) != 115)=false:=by rw[h115];simp[e3]
  have hs:sepB ifs (c,m)=ifs.contains c:=by simp[sepB,e3]
  rw[hs]
  clear h101 h98 h115 e1 e2 e3 hs
  have g1:Lib.indexByte (mkS ifs).data.toList ((c.toNat:Int).toNat.toUInt8)<0↔c∉ifs:=by rw[mkS_list,toNat8,index_neg]
  have g2:Lib.indexByte [32,9,10] ((c.toNat:Int).toNat.toUInt8)<0↔c∉[32,9,10]:=by rw[toNat8,index_neg]
  obtain⟨z,hz⟩:∃ z,z=Lib.indexByte (mkS ifs).data.toList ((c.toNat:Int).toNat.toUInt8):=⟨_,rfl⟩
  obtain⟨y,hy⟩:∃ y,y=Lib.indexByte [32,9,10] ((c.toNat:Int).toNat.toUInt8):=⟨_,rfl⟩
  rw[←hz] at g1
  rw[←hy] at g2
  have HZ:=Lib.hid hz
  have HY:=Lib.hid hy
  clear hz hy
  by_cases hc:c∈ifs
  ·have k1:¬ z<0:=by rw[g1];simpa using hc
   rw[if_pos (by simpa using hc)]
   clear g1 hc
   by_cases hw:whiteB c=true
   ·have k2:0≤y:=by
     have:¬ y<0:=by rw[g2];unfold whiteB at hw;simp only[Bool.or_eq_true,beq_iff_eq] at hw;rcases hw with(hw | hw) | hw <;> simp[hw]
     omega
    rw[if_pos hw]
    clear hw g2
    go_enter Tryz.func90,Tryz.ntmps90
    go_wp2_with (first
     |(go_at_call 70;(with_reducible refine(HI.out _).mono ?_);rintro e w1 ⟨rfl,rfl⟩;rw[←HZ.out];clear HI)
     |(go_at_call 70;(with_reducible refine(HJ.out _).mono ?_);rintro e w1 ⟨rfl,rfl⟩;rw[←HY.out];clear HJ))
    go_ret
    exact⟨rfl,hl⟩
   ·have k2:¬ 0≤y:=by
     have:y<0:=by rw[g2];unfold whiteB at hw;simp only[Bool.or_eq_true,beq_iff_eq,not_or] at hw;simp[hw.1.1,hw.1.2,hw.2]
     omega
    rw[if_neg hw]
    clear hw g2
    go_enter Tryz.func90,Tryz.ntmps90
    go_wp2_with (first
     |(go_at_call 70;(with_reducible refine(HI.out _).mono ?_);rintro e w1 ⟨rfl,rfl⟩;rw[←HZ.out];clear HI)
     |(go_at_call 70;(with_reducible refine(HJ.out _).mono ?_);rintro e w1 ⟨rfl,rfl⟩;rw[←HY.out];clear HJ))
    go_ret
    exact⟨rfl,hl⟩
  ·have k1:z<0:=by rw[g1];exact hc
   rw[if_neg (by simpa using hc)]
   clear g1 g2 hc HY HJ
   go_enter Tryz.func90,Tryz.ntmps90
   go_wp2_with (first
    |(go_at_call 70;(with_reducible refine(HI.out _).mono ?_);rintro e w1 ⟨rfl,rfl⟩;rw[←HZ.out];clear HI)
    | fail)
   go_ret
   exact⟨rfl,hl⟩
 ·have f3:((m.toNat:Int) != 115)=true:=by rw[h115];simp[e3]
  have hs:sepB ifs (c,m)=false:=by simp[sepB,e3]
  rw[hs]
  clear h101 h98 h115 e1 e2 e3 hs HI HJ
  go_enter Tryz.func90,Tryz.ntmps90
  go_wp2
  go_ret
  exact⟨rfl,hl⟩
end Jo
end Go.Proofs.YtipdgmjplnibeaaGreatDoor
namespace Go.Proofs.YtipdgmjplnibeaaGreatDoor
open Go.RowKit Go.Maps
namespace Bu
def But (b:Nat) (v:Value):Nat→Prop:=fun k=>k≠b∧v.ownBlock≠some k
structure Bd (base:Nat) (w:World) (b:Nat) (v:Value) (bs:L):Prop where
 box:∃ pa,(pa=.pointer none∨pa=.pointer (some ⟨b,0,none⟩))∧w.heap[b]?=some (.cells #[pa,v] 118 (0,0))
 own:w.ownsRow base 5 1 v bs.length (bs.map bv)
section
variable {base b:Nat} {w w':World} {v:Value} {bs:L}
theorem Bd.new (base:Nat) (w:World):Bd base (w.alloc (.cells #[.pointer none,.slice none 0 0] 118)) w.heap.size (.slice none 0 0) []:=
 ⟨⟨_,.inl rfl,heap_alloc_new w _⟩,World.ownsRow_nil _ _ _ 1⟩
theorem Bd.lt (h:Bd base w b v bs):b<w.heap.size:=by obtain⟨pa,_,hb⟩:=h.box;exact lt_of_block hb
theorem Bd.ne (h:Bd base w b v bs):v.ownBlock≠some b:=fun e=>by
 obtain⟨pa,_,hb⟩:=h.box
 obtain⟨cs,hc⟩:=own_type h.own e
 rw[hb] at hc
 injection hc with hc
 injection hc with _ hc _
 exact absurd hc (by decide)
theorem Bd.ne2 {base' b':Nat} {v':Value} {bs':L} (h:Bd base w b v bs) (h':Bd base' w b' v' bs'):v.ownBlock≠some b':=fun e=>by
 obtain⟨pa,_,hb⟩:=h'.box
 obtain⟨cs,hc⟩:=own_type h.own e
 rw[hb] at hc
 injection hc with hc
 injection hc with _ hc _
 exact absurd hc (by decide)
theorem Bd.keep {X:Nat→Prop} (h:Bd base w b v bs) (hf:Fr X w w') (hb:X b) (hv:∀ i,v.ownBlock=some i→X i):Bd base w' b v bs:=by
 obtain⟨pa,h1,h2⟩:=h.box
 exact⟨⟨pa,h1,hf.cells h2 hb⟩,hf.row h.own hv⟩
end
theorem check_v {W:World} {b:Nat} {v pa:Value} (hpa:pa=.pointer none∨pa=.pointer (some ⟨b,0,none⟩)) (hb:W.heap[b]?=some (.cells #[pa,v] 118 (0,0))) :
  Calls Tryz.prog 97 #[.pointer (some ⟨b,0,none⟩)] W fun e W'=>e=.returned (.tuple #[])∧W'.heap[b]?=some (.cells #[.pointer (some ⟨b,0,none⟩),v] 118 (0,0))∧W.grownBy W' (some b):=by
 have hsh:W.shape? b=some (118,2):=by simp[World.shape?,hb]
 have hj:∃ j,Tryz.prog.info? 118=some j∧j.size=2:=by
  have e:(Tryz.prog.info? 118).map (fun i=>i.size)=some 2:=by kernel_rfl
  obtain⟨j,h1,h2⟩:=Option.map_eq_some_iff.1 e
  exact⟨j,h1,h2⟩
 obtain⟨j,hj,hjs⟩:=hj
 obtain⟨c0,z0⟩:=cell_row hb 0
 have HB:=Lib.hid hb
 rcases hpa with rfl | rfl
 ·have c0':W.cell? ⟨b,0,none⟩=some (.pointer none):=c0
  clear hb c0
  go_enter Tryz.func97,Tryz.ntmps97
  go_wp2
  rw[Lib.run_to_unsafe W ⟨b,0,none⟩ Tryz.underlying116 Tryz.underlying175 hj (by rw[hjs];decide) hsh (show 0<2 by omega)]
  simp only[Result.andThen]
  rw[Oper.upon_value]
  go_wp2
  rw[run_callFunc_extern Tryz.func127 (by kernel_rfl) (by kernel_rfl) (by kernel_rfl) (e:=Extern.AbiNoEscape.same) (by kernel_rfl)]
  rw[Lib.run_noEscape]
  simp only[Result.andThen]
  rw[Oper.upon_value]
  go_wp2
  rw[Lib.run_from_unsafe W ⟨b,0,none⟩ Tryz.underlying175 Tryz.underlying116 hj hsh (by kernel_rfl)]
  simp only[Result.andThen]
  rw[Oper.upon_value]
  go_wp2
  go_end0
  exact⟨rfl,set_row HB.out 0 _,set_only _ _ _ _⟩
 ·have c0':W.cell? ⟨b,0,none⟩=some (.pointer (some ⟨b,0,none⟩)):=c0
  clear hb c0
  go_enter Tryz.func97,Tryz.ntmps97
  go_wp2
  rw[Lib.run_neq_ptr_same W _ Tryz.underlying116 hj]
  go_wp2
  go_end0
  exact⟨rfl,HB.out,World.grownBy.refl W _⟩
theorem write_v {W:World} {base b:Nat} {v:Value} {bs:L} (h:Bd base W b v bs) (c:UInt8) (hbase:base≤W.heap.size) (hl:bs.length≤20000000000000) :
  Calls Tryz.prog 122 #[.pointer (some ⟨b,0,none⟩),bv c] W fun e W'=>e=.returned .nilIface∧∃ v',Bd base W' b v' (bs++[c])∧Fr (But b v) W W'∧Moved W v v':=by
 obtain⟨i0,hi,hz0,hz1,hz2⟩:=info_parts info_u8
 have HN:=Lib.hid h.ne
 have HBL:=Lib.hid (show (bs.map bv).length=bs.length from List.length_map ..)
 have hlt:=h.lt
 obtain⟨⟨pa,hpa,hb⟩,hown⟩:=h
 have HC:=Lib.hid (check_v hpa hb)
 have HO:=Lib.hid hown
 clear hpa hb hown
 unfold bv
 go_enter Tryz.func122,Tryz.ntmps122
 go_wp2_with (first
  |(go_at_call 97;(with_reducible refine HC.out.mono ?_);rintro e w1 ⟨rfl,hb1,hg1⟩;obtain⟨c1,z1⟩:=cell_row hb1 1;(have c1':w1.cell? ⟨b,1,none⟩=some v:=c1);have ho1:=HO.out.kept hg1 (.inr HN.out);(rw[←HBL.out] at ho1);(have HO1:=Lib.hid ho1);(have HB1:=Lib.hid hb1);(have HG1:=Lib.hid hg1);(have hs1:=hg1.size);clear ho1 hb1 hg1 c1)
  |(at_builtin;refine wpList_app1 _ (.int .u8 (c.toNat:Int)) rfl (.tmp 11) (.tmp 13) 81 rfl base 5 i0 (.int .u8 0) 1 Tryz.underlying81 hi hz0 hz1 hz2 rfl rfl v (bs.map bv) rfl HO1.out rfl (by rw[List.length_map];omega) (by rw[List.length_map];omega) (by omega) ?_;intro v' w2 hg2;obtain⟨A2,k2,e9,_⟩:=own_any hg2.own;subst e9;(have hb2:=(hg2.grown.block b (by omega) (fun e=>HN.out e.symm)).trans HB1.out);obtain⟨c2,z2⟩:=cell_row hb2 1;(have HB2:=Lib.hid hb2);(have HG2:=Lib.hid hg2);clear hb2 hg2))
 go_ret
 have hg2:=HG2.out
 have el:(bs.map bv++[Value.int .u8 (c.toNat:Int)]).length=bs.length+1:=by simp
 rw[el] at hg2
 refine⟨rfl,_,⟨⟨_,.inr rfl,set_row HB2.out 1 _⟩,?_⟩,?_,?_⟩
 ·have:=hg2.own.kept (set_only _ b 1 (.slice A2 (bs.length+1) k2)) (.inr fun e=>by
   obtain⟨cs,hc⟩:=own_type hg2.own e
   rw[HB2.out] at hc
   injection hc with hc
   injection hc with _ hc _
   exact absurd hc (by decide))
  simpa [bv] using this
 ·exact((Fr.grown HG1.out fun x e=>by injection e with e;subst e;exact fun hx=>hx.1 rfl).trans (Fr.grown hg2.grown fun x e hx=>hx.2 e)).trans (Fr.grown (set_only _ _ _ _) fun x e=>by injection e with e;subst e;exact fun hx=>hx.1 rfl)
 ·rcases hg2.moved with e | ⟨k,e,hk⟩
  ·exact .inl e
  ·exact .inr ⟨k,e,Nat.le_trans hs1 hk⟩
theorem write_n {W:World} {base b:Nat} {v:Value} {bs:L} (h:Bd base W b v bs) (c:UInt8) (hbase:base≤W.heap.size) (hl:bs.length≤20000000000000) :
  Calls Tryz.prog 122 #[.pointer (some ⟨b,0,none⟩),.int .u8 (c.toNat:Int)] W fun e W'=>e=.returned .nilIface∧∃ v',Bd base W' b v' (bs++[c])∧Fr (But b v) W W'∧Moved W v v':=write_v h c hbase hl
def Own (v:Value):Nat→Prop:=fun k=>v.ownBlock≠some k
theorem string_v {W:World} {base b:Nat} {v:Value} {bs:L} (h:Bd base W b v bs) (hl:bs.length≤20000000000000):Calls Tryz.prog 67 #[.pointer (some ⟨b,0,none⟩)] W fun e W'=>e=.returned (.string (mkS bs))∧Fr (Own v) W W':=by
 obtain⟨⟨pa,hpa,hb⟩,hown⟩:=h
 obtain⟨c1,z1⟩:=cell_row hb 1
 have c1':W.cell? ⟨b,1,none⟩=some v:=c1
 have hc1:W.drew.cell? ⟨b,1,none⟩=some v:=c1
 have hUN:∀ (W:World) (q:Option Addr),(Builtin.unsafeString_ #[152,3] 9 #[.pointer q,.int .i64 0]).run Tryz.prog W=.ok (.string .empty) W:=fun W q=>Lib.run_unsafeString_none W _ _ _ q
 clear hpa hb c1
 rcases hown.2 with⟨rfl,h0⟩ | ⟨u,cap,cur,rfl,hbu,hu,hnc,hcm,hcs,htake⟩
 ·have e0:bs=[]:=List.eq_nil_of_length_eq_zero h0
  subst e0
  have hSD:(Builtin.unsafeSliceData_ #[81] 152 #[.slice none 0 0]).run Tryz.prog W.drew=.ok (.pointer none) W.drew:=rfl
  clear hown h0
  go_enter Tryz.func67,Tryz.ntmps67
  go_wp2
  go_region
  all_goals (go_wp2;go_ret;exact⟨rfl,Fr.later (Later.drew _)⟩)
 ·have hult:=lt_of_block hu
  by_cases h0:bs=[]
  ·subst h0
   by_cases hc0:cap=0
   ·subst hc0
    have hSD:(Builtin.unsafeSliceData_ #[81] 152 #[.slice (some ⟨u,0,none⟩) 0 0]).run Tryz.prog W.drew=.ok (.pointer (some ⟨W.drew.heap.size,0,none⟩)) (W.drew.alloc (.view ⟨u,0,none⟩ 5)):=
     Lib.run_unsafeSliceData_zero W.drew _ _ 5 Tryz.underlying152 ⟨u,0,none⟩ 0 (5,cur.size) (by have hg':W.drew.heap[u]?=some (.cells cur 5 (0,0)):=hu;simp[World.shape?,hg'])
    have c2:(W.drew.alloc (.view ⟨u,0,none⟩ 5)).cell? ⟨b,1,none⟩=some (.slice (some ⟨u,0,none⟩) 0 0):=cell_keeps (Later.alloc W.drew _) hc1
    have c3:(W.alloc (.view ⟨u,0,none⟩ 5)).drew.cell? ⟨b,1,none⟩=some (.slice (some ⟨u,0,none⟩) 0 0):=c2
    clear hown
    simp only[List.length_nil] at c1' hc1
    go_enter Tryz.func67,Tryz.ntmps67
    go_wp2
    go_region
    all_goals (go_wp2;go_ret;exact⟨rfl,Fr.later (Later.trans (Later.drew _) (Later.alloc _ _))⟩)
   ·have hSD:(Builtin.unsafeSliceData_ #[81] 152 #[.slice (some ⟨u,0,none⟩) 0 cap]).run Tryz.prog W.drew=.ok (.pointer (some ⟨u,0,none⟩)) W.drew:=Lib.run_unsafeSliceData_row _ _ _ _ _ _ hc0
    clear hown hc0
    simp only[List.length_nil] at c1' hc1
    go_enter Tryz.func67,Tryz.ntmps67
    go_wp2
    go_region
    all_goals (go_wp2;go_ret;exact⟨rfl,Fr.later (Later.drew _)⟩)
  ·have hl0:bs.length≠0:=by simpa using h0
   have hSD:(Builtin.unsafeSliceData_ #[81] 152 #[.slice (some ⟨u,0,none⟩) bs.length cap]).run Tryz.prog W.drew=.ok (.pointer (some ⟨u,0,none⟩)) W.drew:=Lib.run_unsafeSliceData_row _ _ _ _ _ _ (by omega)
   have hcells:Tryz.prog.cellsOf 5=1:=by kernel_rfl
   have hUS:(Builtin.unsafeString_ #[152,3] 9 #[.pointer (some ⟨u,0,none⟩),.int .i64 bs.length]).run Tryz.prog W.drew=.ok (.string (mkS bs)) (W.drew.freeze ⟨u,0,none⟩ bs.length):=by
    refine Lib.run_unsafeString_row W.drew 152 3 9 5 Tryz.underlying152 hcells u cur.size (by have hg':W.drew.heap[u]?=some (.cells cur 5 (0,0)):=hu;simp[World.shape?,hg']) bs h0 (by omega) (by omega) ?_
    intro j x hx
    have:=hown.cells (g:=u) rfl j (.int .u8 x.toNat) (by rw[List.getElem?_map,hx];rfl)
    exact this
   have hlr:Fr (Own (.slice (some ⟨u,0,none⟩) bs.length cap)) W (W.drew.freeze ⟨u,0,none⟩ bs.length):=by
    refine(Fr.later (Later.drew W)).trans ?_
    have e:W.drew.freeze ⟨u,0,none⟩ bs.length={ W.drew with heap:=(W.drew.freeze ⟨u,0,none⟩ bs.length).heap }:=by unfold World.freeze;split <;> rfl
    refine⟨by rw[e],by rw[e],by rw[e],?_,fun k hk hx=>?_⟩
    ·unfold World.freeze;split <;> simp
    ·unfold World.freeze
     split
     ·rfl
     ·simp only[Array.getElem?_modify]
      rw[if_neg]
      intro e2
      exact hx (by simp[Value.ownBlock,e2])
   clear hown hcells
   go_enter Tryz.func67,Tryz.ntmps67
   go_wp2
   go_region
   all_goals (go_wp2;go_ret;exact⟨rfl,hlr⟩)
end Bu
end Go.Proofs.YtipdgmjplnibeaaGreatDoor
namespace Go.Proofs.YtipdgmjplnibeaaGreatDoor
open Go.RowKit Go.Maps
namespace Jo
open Bu
structure RdC (w:World) (B:Nat) (v:Value) (z:List C2):Prop where
 le:∃ A c,v=.slice A z.length c∧z.length≤c
 at_:0<z.length→∃ g c,v=.slice (some ⟨g,0,none⟩) z.length c∧g<B∧∀ (k:Nat) (h:k<z.length),w.cell? ⟨g,k*2,none⟩=some (bv z[k].1)∧w.cell? ⟨g,k*2+1,none⟩=some (bv z[k].2)
theorem RdC.of_own {w:World} {base:Nat} {v:Value} {z:List C2} (h:w.ownsRow base 146 2 v z.length (cs z)):RdC w w.heap.size v z:=by
 have ha:=own_any h
 refine⟨ha,fun h0=>?_⟩
 rcases h.2 with⟨_,e⟩ | ⟨g,cap,cur,rfl,hb,hh,_⟩
 ·omega
 ·refine⟨g,cap,rfl,lt_of_block hh,fun k hk=>?_⟩
  obtain⟨h1,h2⟩:=cs_at z k hk
  have e1:=h.cells (g:=g) rfl _ _ h1
  have e2:=h.cells (g:=g) rfl _ _ h2
  rw[add_lit0] at e1 e2
  exact⟨e1,e2⟩
theorem RdC.keep {w w':World} {B:Nat} {v:Value} {z:List C2} (h:RdC w B v z) (hk:∀ p:Addr,p.block<B→w'.cell? p=w.cell? p):RdC w' B v z:=
 ⟨h.le,fun h0=>by
  obtain⟨g,c,e,hb,hc⟩:=h.at_ h0
  exact⟨g,c,e,hb,fun k hk2=>⟨(hk _ hb).trans (hc k hk2).1,(hk _ hb).trans (hc k hk2).2⟩⟩⟩
theorem cell_load {w:World} {g o:Nat} {p:C2} (c0:w.cell? ⟨g,o,none⟩=some (bv p.1)) (c1:w.cell? ⟨g,o+1,none⟩=some (bv p.2)):(Instr.loadAt 146 (.pointer (some ⟨g,o,none⟩))).run Tryz.prog w=.ok (.agg #[bv p.1,bv p.2]) w:=by
 refine run_loadAt_mid (P:=Tryz.prog) w g o 146 [bv p.1,bv p.2] _ (fun j v hv=>?_) Tryz.underlying146 rfl (by kernel_rfl)
 have hj:j<2:=(List.getElem?_eq_some_iff.1 hv).1
 match j,hj with
 | 0,_=>cases hv;exact c0
 | 1,_=>cases hv;exact c1
def ft (z:List C2):L:=z.map (·.1)
def fm (z:List C2):L:=z.map (·.2)
theorem ft_take {z:List C2} {k:Nat} (h:k<z.length):ft (z.take (k+1))=ft (z.take k)++[z[k].1]:=by unfold ft;rw[List.take_succ_eq_append_getElem h,List.map_append];rfl
theorem fm_take {z:List C2} {k:Nat} (h:k<z.length):fm (z.take (k+1))=fm (z.take k)++[z[k].2]:=by unfold fm;rw[List.take_succ_eq_append_getElem h,List.map_append];rfl
theorem later_fr {a b c:World} {X:Nat→Prop} (h:Later a b) (hf:Fr X b c) (hx:∀ k,k<a.heap.size→X k):Later a c:=
 ⟨hf.os.trans h.os,hf.tape.trans h.tape,hf.output.trans h.output,Nat.le_trans h.size hf.size,fun k hk=>(hf.block k (Nat.lt_of_lt_of_le hk h.size) (hx k hk)).trans (h.block k hk)⟩
theorem own_ge {w:World} {base n size:Nat} {e:TypeId} {v:Value} {xs:List Value} (h:w.ownsRow base e size v n xs) {k:Nat} (hk:v.ownBlock=some k):base≤k∧k<w.heap.size:=h.lt k hk
def Apart2 (v u:Value):Prop:=∀ i,v.ownBlock=some i→u.ownBlock≠some i
theorem Apart2.symm {v u:Value} (h:Apart2 v u):Apart2 u v:=fun i e e2=>h i e2 e
theorem other_bd {base b1 b2:Nat} {W W':World} {v1 v2 v':Value} {x1 x2:L} (h1:Bd base W b1 v1 x1) (h2:Bd base W b2 v2 x2) (hb:b2≠b1) (ha:Apart2 v1 v2) (hf:Fr (But b1 v1) W W') (hm:Moved W v1 v') :
  Bd base W' b2 v2 x2∧Apart2 v' v2:=by
 refine⟨h2.keep hf ⟨hb,h1.ne2 h2⟩ fun i e=>⟨fun e2=>h2.ne2 h1 (by rw[e,e2]),fun e2=>ha i e2 e⟩,fun i e=>?_⟩
 rcases hm with e1 | ⟨j,e1,hj⟩
 ·exact ha i (e1.symm.trans e)
 ·rw[e] at e1
  injection e1 with e1
  intro e2
  have:=(own_ge h2.own e2).2
  omega
structure Two (w W:World) (x1 x2:L) (v1 v2:Value):Prop where
 low:Later w W
 res:W.heap[w.heap.size]?=some (.cells #[.string (mkS []),.string (mkS [])] 37 (0,0))
 b1:Bd w.heap.size W (w.heap.size+1) v1 x1
 b2:Bd w.heap.size W (w.heap.size+1+1) v2 x2
 apart:Apart2 v1 v2
 r1:v1.ownBlock≠some w.heap.size
 r2:v2.ownBlock≠some w.heap.size
theorem Two.later {w W W':World} {x1 x2:L} {v1 v2:Value} (h:Two w W x1 x2 v1 v2) (hl:Later W W'):Two w W' x1 x2 v1 v2:=
 ⟨h.low.trans hl,later_cells hl h.res,h.b1.keep (X:=fun _=>True) (Fr.later hl) trivial (fun _ _=>trivial),h.b2.keep (X:=fun _=>True) (Fr.later hl) trivial (fun _ _=>trivial),h.apart,h.r1,h.r2⟩
theorem moved_ne {W:World} {v v':Value} {k:Nat} (hm:Moved W v v') (h:v.ownBlock≠some k) (hk:k<W.heap.size):v'.ownBlock≠some k:=fun e=>by
 rcases hm with e1 | ⟨j,e1,hj⟩
 ·exact h (e1.symm.trans e)
 ·rw[e] at e1;injection e1 with e1;omega
theorem Two.step1 {w W W':World} {x1 x2:L} {v1 v2 v':Value} {c:UInt8} (h:Two w W x1 x2 v1 v2) (hb:Bd w.heap.size W' (w.heap.size+1) v' (x1++[c])) (hf:Fr (But (w.heap.size+1) v1) W W') (hm:Moved W v1 v'):Two w W' (x1++[c]) x2 v' v2:=by
 obtain⟨h2,ha⟩:=other_bd h.b1 h.b2 (by omega) h.apart hf hm
 exact⟨later_fr h.low hf fun j hj=>⟨by omega,fun e=>by have:=(own_ge h.b1.own e).1;omega⟩,hf.cells h.res ⟨by omega,h.r1⟩,hb,h2,ha,moved_ne hm h.r1 (lt_of_block h.res),h.r2⟩
theorem Two.step2 {w W W':World} {x1 x2:L} {v1 v2 v':Value} {c:UInt8} (h:Two w W x1 x2 v1 v2) (hb:Bd w.heap.size W' (w.heap.size+1+1) v' (x2++[c])) (hf:Fr (But (w.heap.size+1+1) v2) W W') (hm:Moved W v2 v'):Two w W' x1 (x2++[c]) v1 v':=by
 obtain⟨h2,ha⟩:=other_bd h.b2 h.b1 (by omega) h.apart.symm hf hm
 exact⟨later_fr h.low hf fun j hj=>⟨by omega,fun e=>by have:=(own_ge h.b2.own e).1;omega⟩,hf.cells h.res ⟨by omega,h.r2⟩,h2,hb,ha.symm,h.r1,moved_ne hm h.r2 (lt_of_block h.res)⟩
theorem Two.new (w:World):Two w (((w.alloc (.cells #[.string (mkS []),.string (mkS [])] 37)).alloc (.cells #[.pointer none,.slice none 0 0] 118)).alloc (.cells #[.pointer none,.slice none 0 0] 118)) [] [] (.slice none 0 0) (.slice none 0 0):=by
 have l1:=Later.alloc w (.cells #[.string (mkS []),.string (mkS [])] 37)
 have l2:=Later.alloc (w.alloc (.cells #[.string (mkS []),.string (mkS [])] 37)) (.cells #[.pointer none,.slice none 0 0] 118)
 have l3:=Later.alloc ((w.alloc (.cells #[.string (mkS []),.string (mkS [])] 37)).alloc (.cells #[.pointer none,.slice none 0 0] 118)) (.cells #[.pointer none,.slice none 0 0] 118)
 have n1:=Bd.new w.heap.size (w.alloc (.cells #[.string (mkS []),.string (mkS [])] 37))
 have n2:=Bd.new w.heap.size ((w.alloc (.cells #[.string (mkS []),.string (mkS [])] 37)).alloc (.cells #[.pointer none,.slice none 0 0] 118))
 simp only[World.size_alloc] at n1 n2
 exact⟨(l1.trans l2).trans l3,later_cells l3 (later_cells l2 (heap_alloc_new w _)),n1.keep (X:=fun _=>True) (Fr.later l3) trivial (fun _ _=>trivial),n2,fun i e=>by simp[Value.ownBlock] at e,by simp[Value.ownBlock],by simp[Value.ownBlock]⟩
theorem results_row {fn:Func} {p:Tmp} (h:fn.results=#[.cell p 37]) (tmps:Array Value) (w:World) (g:Nat) (cs:Array Value) (fr:Nat×Nat) (hp:tmps.getD p undef=.pointer (some ⟨g,0,none⟩)) (hg:w.heap[g]?=some (.cells cs 37 fr)) (hs:cs.size=2):(results fn tmps).run Tryz.prog w=.ok (.agg cs) w:=
 results_cell_row h tmps w g _ cs fr _ hp hg Tryz.underlying37 rfl (by rw[hs];kernel_rfl)
theorem row_v (v:Value) (z:List C2) (w:World) (hr:RdC w w.heap.size v z) (hz:z.length≤1000000):Calls Tryz.prog 95 #[v] w fun e w'=>e=.returned (.agg #[.string (mkS (ft z)),.string (mkS (fm z))])∧Later w w':=by
 have HR:=Lib.hid hr
 have HT:=Lib.hid (Two.new w)
 obtain⟨A,c,rfl,hc⟩:=hr.le
 clear hr
 go_enter Tryz.func95,Tryz.ntmps95
 go_wp2
 go_loopw [9] (fun s9 wr=>∃ (k:Nat) (v1 v2:Value),s9=.int .i64 (k:Int)∧k≤z.length∧Two w wr (ft (z.take k)) (fm (z.take k)) v1 v2) (fun i _=>z.length-(intOf i).toNat)
 case atStart=>exact⟨0,_,_,rfl,Nat.zero_le _,HT.out⟩
 case round=>
  obtain⟨k,v1,v2,rfl,hk,hT⟩:=hrel
  have HTT:=Lib.hid hT
  clear hT
  have hk0:(0:Int)≤(k:Int):=by omega
  by_cases hlt:k<z.length
  ·have hk1:(k:Int)<(z.length:Int):=by omega
   obtain⟨g,c',e,hg,hcc⟩:=HR.out.at_ (by omega)
   injection e with e _ e2
   subst e e2
   obtain⟨c0,c1⟩:=hcc k hlt
   have hw:=HTT.out.low.size
   obtain⟨p,hp⟩:∃ p,p=z[k]:=⟨_,rfl⟩
   rw[←hp] at c0 c1
   have HP:=Lib.hid hp
   have c0':wr.cell? ⟨g,k*2,none⟩=some (bv p.1):=(HTT.out.low.cell (p:=⟨g,k*2,none⟩) hg).trans c0
   have c1':wr.cell? ⟨g,k*2+1,none⟩=some (bv p.2):=(HTT.out.low.cell (p:=⟨g,k*2+1,none⟩) hg).trans c1
   have hld:=cell_load c0' c1'
   simp only[bv] at hld
   have HLD:=Lib.hid hld
   have hl1:(ft (z.take k)).length≤20000000000000:=by simp[ft];omega
   have hl2:(fm (z.take k)).length≤20000000000000:=by simp[fm];omega
   clear hp hcc c0 c1 c0' c1' hld
   obtain⟨o,ho⟩:∃ o:Obj,o=.cells #[.int .u8 (p.1.toNat:Int),.int .u8 (p.2.toNat:Int)] 146:=⟨_,rfl⟩
   have HA:=Lib.hid (HTT.out.later (Later.alloc wr o))
   have HNB:=Lib.hid (heap_alloc_new wr o)
   have HOW:=Lib.hid (fun e=>(own_ge HTT.out.b1.own (k:=wr.heap.size) e).2)
   have hsz:(wr.alloc o).heap.size=wr.heap.size+1:=World.size_alloc ..
   rw[ho] at HA HNB hsz
   have hb2l:=HTT.out.b2.lt
   have hba:w.heap.size≤(wr.alloc (.cells #[.int .u8 (p.1.toNat:Int),.int .u8 (p.2.toNat:Int)] 146)).heap.size:=by rw[hsz];omega
   clear ho o
   go_wp2_with (first
    |(refine wpList_loadRun rfl 146 (.tmp 11) rfl _ _ rfl HLD.out ?_)
    |(go_at_call 122;fail))
   (with_reducible refine(write_n HA.out.b1 p.1 hba hl1).mono ?_)
   rintro e w2 ⟨rfl,v1',hb,hf,hm⟩
   have HA2:=Lib.hid (HA.out.step1 hb hf hm)
   have hnb:=hf.cells HNB.out ⟨by omega,fun e=>absurd (HOW.out e) (Nat.lt_irrefl _)⟩
   obtain⟨cb1,_⟩:=cell_row hnb 1
   have cb1':w2.cell? ⟨wr.heap.size,1,none⟩=some (.int .u8 (p.2.toNat:Int)):=cb1
   have hw2:=HA2.out.low.size
   clear HA HNB HOW hb hf hm hnb cb1
   go_wp2_with (first
    |(go_at_call 122;(with_reducible refine(write_n HA2.out.b2 p.2 hw2 hl2).mono ?_);rintro e w3 ⟨rfl,v2',hb,hf,hm⟩;(have HA3:=Lib.hid (HA2.out.step2 hb hf hm));clear hb hf hm))
   go_roundw
   case rel=>
    have e1:=ft_take hlt
    have e2:=fm_take hlt
    rw[←HP.out] at e1 e2
    exact⟨k+1,_,_,by go_num,by omega,by rw[e1,e2];exact HA3.out⟩
   case measure=>simp[intOf];omega
  ·have hkz:z.take k=z:=List.take_of_length_le (by omega)
   rw[hkz] at HTT
   have hl1:(ft z).length≤20000000000000:=by simp[ft];omega
   have hl2:(fm z).length≤20000000000000:=by simp[fm];omega
   go_wp2_with (first
    |(go_at_call 67;(with_reducible refine(string_v HTT.out.b1 hl1).mono ?_);rintro e w2 ⟨rfl,hf⟩;(have hb2:=Lib.hid (HTT.out.b2.keep hf (HTT.out.b1.ne2 HTT.out.b2) (fun i e e2=>HTT.out.apart i e2 e)));(have hres:=hf.cells HTT.out.res HTT.out.r1);(have HRES:=Lib.hid hres);(have HLO:=Lib.hid (later_fr HTT.out.low hf fun j hj e=>by have:=(own_ge HTT.out.b1.own e).1;omega));clear hf hres)
    |(go_at_call 67;(with_reducible refine(string_v hb2.out hl2).mono ?_);rintro e w3 ⟨rfl,hf⟩;(have hres:=hf.cells HRES.out HTT.out.r2);obtain⟨r0,z0⟩:=cell_row hres 0;obtain⟨r1,z1⟩:=cell_row hres 1;(have r0':w3.cell? ⟨w.heap.size,0,none⟩=some (.string (mkS [])):=r0);(have r1':w3.cell? ⟨w.heap.size,1,none⟩=some (.string (mkS [])):=r1);(have HRES3:=Lib.hid hres);(have HLO3:=Lib.hid (later_fr HLO.out hf fun j hj e=>by have:=(own_ge hb2.out.own e).1;omega));clear hf hres r0 r1))
   have h1:=set_row HRES3.out 0 (.string (mkS (ft z)))
   have h2:=set_row h1 1 (.string (mkS (fm z)))
   refine bodyPost_ret (results_row rfl _ _ w.heap.size _ (0,0) rfl h2 rfl) rfl ?_
   exact⟨rfl,later_of_new (later_of_new HLO3.out (set_only _ _ _ _) (Nat.le_refl _)) (set_only _ _ _ _) (Nat.le_refl _)⟩
end Jo
end Go.Proofs.YtipdgmjplnibeaaGreatDoor
