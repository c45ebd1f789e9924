import Derived.Test.YtmepekognmlblaaGreatDoorG34
import Derived.Lib.AppendStr
import Derived.Lib.OwnKind
import Derived.Lib.ItoaLen
set_option maxHeartbeats 16000000
set_option maxRecDepth 100000
set_option linter.unusedVariables false
open Go.Proofs.Tryz Go.ChangeShapes Go.WideShapes Go.ChangeAt Go.RowKit
open Go.Lib renaming hid→QA
open _root_.List renaming length_append→ZU,setIfInBounds_toArray→ZC,set_cons_succ→ZA,set_cons_zero→QZ,length_cons→GW,append_assoc→JZ
open _root_.Nat renaming le_trans→QW,lt_of_lt_of_le→VE,le_refl→QI,zero_add→ZL
open Go.RowKit.Below renaming refl→QE
open Go.Value renaming string→σ,int→ι,slice→ς,pointer→π,agg→ξ
open Go.IntKind renaming i64→γ
open Go.Obj renaming cells→θ
open Go.Ending renaming returned→ρ
namespace Go.Proofs.YtmepekognmlblaaGreatDoor
namespace Shape
open Mem Tree
theorem Qf9:(prog.info? 5).map (fun i=>(i.zero,i.size,i.bytes))=some (some (ι .u8 0),1,1):=χ
def OC (B:Nat) (w:World):Prop:=Lib.TabBelow prog B w "internal/strconv.uint64pow10" .u64 Lib.pow10Tab
theorem OC.on{B:Nat}{w w':World}(h:OC B w)(hb:Below B w w'):OC B w':=Lib.TabBelow.on h hb
def Wd(w:World)(B:Nat)(v:Value)(l:List UInt8):Prop:=w.ownsRow B 5 1 v l.length (Lib.byteCells l)
structure Kp(B:Nat)(w w':World):Prop where
 QF:Below B w w'
 eW:Lib.OthersKept 5 none w w'
theorem Kp.refl(B:Nat)(w:World):Kp B w w:=⟨Below.refl _ _,Lib.OthersKept.refl _ _ _⟩
theorem Kp.trans{B:Nat}{w w' w'':World}(h:Kp B w w')(h':Kp B w' w''):Kp B w w'':=⟨h.QF.trans h'.QF,h.eW.trans h'.eW⟩
theorem Kp.alloc{B:Nat}{w w':World}(h:Kp B w w')(hB:B≤w.heap.size)(o:Obj):Kp B w (w'.alloc o):=⟨h.QF.trans ((Qz w' o).mono (QW hB h.QF.size)),h.eW.alloc o⟩
theorem Kp.grown{B:Nat}{w w':World}{e:TypeId}{n:Nat}{v:Value}{xs:List Value}(hB:B≤w.heap.size)(ho:w.ownsRow B 5 1 v n xs)(hg:w.grownBy w' v.ownBlock):Kp B w w' :=
 ⟨⟨hg.os,hg.tape,hg.output,hg.size,fun k hk=>hg.block k (Nat.lt_of_lt_of_le hk hB) fun e=>by have:=(ho.lt k e.symm).1;omega⟩,(Lib.OthersKept.refl _ _ w).grown hg (Lib.ownsRow_kind ho)⟩
theorem Kp.block{B k:Nat}{w w':World}{o:Obj}(h:Kp B w w')(hk:w.heap[k]?=some o)(ho:∀c fz,o≠θ c 5 fz):w'.heap[k]?=some o:=h.eW k o hk ψ ho
theorem Yh(l m:List UInt8):Lib.byteCells (l++m)=Lib.byteCells l++Lib.byteCells m:=by simp[Lib.byteCells]
theorem Ev(z:Int)(hz0 : -9223372036854775808≤z)(hz1:z≤9223372036854775807)(v:Value)(l:List UInt8)(w:World)(B:Nat)(h:Wd w B v l)(hB:B≤w.heap.size)(hl:l.length≤1000000000)(hp:OC B w) :
 Calls prog 80 #[v,ι γ z] w fun e w'=>∃v',e=ρ v'∧Wd w' B v' (l++V3 z)∧Kp B w w':=by
 obtain⟨i0,hi0,hw0,hw1,hw2⟩:=info_parts Qf9;have HA:=QA (Tryz.JI B l.length z hz0 hz1 v (Lib.byteCells l) w h hB ω hp);have hle:=Lib.itoa_length_le z hz0 hz1;have LH:=QA hle;have HL:=QA hl;have JP:=QA hB;obtain⟨a,c,rfl,_,_⟩:=Q0 h;clear hz0 hz1 h hp hle hl hB;go_enter func80,ntmps80;go_wp2_with fail;refine HA.out.mono ?_;rintro e w1 ⟨v1,rfl,XD,hb1,hk1⟩;obtain⟨a1,c1,rfl,_,_⟩:=Q0 XD;have OT:=QA XD;have Sl:Hid (Kp B w w1):=⟨hb1,hk1⟩;clear XD hb1 hk1 HA;go_wp2_with (at_builtin;refine wpList_append_own _ rfl _ _ 103 rfl B 5 i0 (ι .u8 0) 1 1 underlying103 hi0 hw0 hw1 hw2 rfl δ _ _ _ rfl (OT.out.alloc _) ⟨w1.heap.size,0,none⟩ 1 1 [ι .u8 32] rfl rfl (by intro j u' hj;match j,hj with|0,hj=>simp at hj;subst hj;simp[Addr.add]) (by intro u' hu';simp at hu';subst hu';rfl) (by have:=HL.out;have:=LH.out;unfold maxLen;omega) (by have:=HL.out;have:=LH.out;omega) (by have:=JP.out;have:=Sl.out.QF.size;simp;omega) ?_);intro v2 w2 EI hg2 _;have PT:B≤w1.heap.size:=QW JP.out Sl.out.QF.size;have JM:Hid (Wd w2 B v2 (l++V3 z)∧Kp B w w2):=by refine⟨?_,(Sl.out.alloc JP.out _).trans (Kp.grown (e:=5) (by simp;omega) (OT.out.alloc _) hg2)⟩;unfold Wd V3;rw[Yh l,Yh,ZU,ZU,←Nat.add_assoc];exact EI
 clear EI hg2;go_wp2;go_ret;exact⟨v2,rfl,JM.out⟩
def BN(x y:ByteArray)(i:Nat):List UInt8:=if i=0 then[]else if i=1 then NG x else NG x++NG y
theorem U1{w:World}{k:Nat}{cs:Array Value}{T:TypeId}(h:w.heap[k]?=some (θ cs T (0,0))){j:Nat}{u:Value}(hj:cs[j]?=some u):w.cell? ⟨k,j,none⟩=some u:=by
 simp[World.cell?,h,hj]
theorem Qgp(k:Int)(x y:ByteArray)(s:Value)(ZW : -9223372036854775808≤k)(hk1:k≤9223372036854775807)(hx:x.size≤1000000)(hy:y.size≤1000000)(v:Value)(l:List UInt8)(w:World)(B:Nat)(h:Wd w B v l)(hB:B≤w.heap.size)(hl:l.length≤100000000)(hp:OC B w)(hs:∃A n C,s=ς A n C) :
 Calls prog 79 #[v,ξ #[ι γ k,σ x,σ y,s]] w fun e w'=>∃v',e=ρ v'∧Wd w' B v' (l++ownB k x y)∧Kp B w w':=by
 obtain⟨As,ns,Cs,rfl⟩:=hs;obtain⟨i0,hi0,hw0,hw1,hw2⟩:=info_parts Qf9;have hb0:=(Kp.refl B w).alloc hB (θ #[ι γ k,σ x,σ y,ς As ns Cs] 24);have h0:(w.alloc (θ #[ι γ k,σ x,σ y,ς As ns Cs] 24)).heap[w.heap.size]?=some (θ #[ι γ k,σ x,σ y,ς As ns Cs] 24 (0,0)):=heap_alloc_new w _;obtain⟨a,c,rfl,_,_⟩:=Q0 h;have HN:=QA (Ev k ZW hk1 _ l _ B (World.ownsRow.alloc h _) (QW hB hb0.QF.size) ω (hp.on hb0.QF));have hq0:=U1 h0 (j:=0) rfl;have JP:=QA hB;have HL:=QA hl;have HP:=QA hp;have EP:=QA hb0;have sK:=QA h0;have HX:=QA hx;have HY:=QA hy;have TU:Hid ((V3 k).length≤22):=by show _≤_;unfold V3;rw[ZU];have:=Lib.itoa_length_le k ZW hk1;simp;omega
 clear ZW hk1 hx hy h hB hl hp hb0 h0;go_enter func79,ntmps79;go_wp2_with fail;refine HN.out.mono ?_;rintro e w1 ⟨v1,rfl,XD,hk1⟩;obtain⟨l1,Lg⟩:=Mem.QD (l++V3 k);rw[Lg]at XD;have Bc:=QA Lg;obtain⟨a1,c1,rfl,_,_⟩:=Q0 XD;have Sl:=QA (EP.out.trans hk1);have h1:=hk1.block sK.out (by intro c fz e;injection e with _ e _;exact absurd e δ);obtain⟨q1,q2⟩:=(⟨U1 h1 (j:=1) rfl,U1 h1 (j:=2) rfl⟩:_∧_);have Z':Hid (B≤w1.heap.size):=QW JP.out Sl.out.QF.size;have BA:Hid (Wd (w1.alloc (θ #[σ x,σ y] 9)) B (ς a1 l1.length c1) l1):=World.ownsRow.alloc XD _;have sO:Hid (l1=l++V3 k++BN x y 0):=by show _=l++V3 k++[];rw[List.append_nil,Bc.out]
 have SF:=QA (Sl.out.alloc JP.out (θ #[σ x,σ y] 9));have XW:Hid ((w1.alloc (θ #[σ x,σ y] 9)).heap[w1.heap.size]?=some (θ #[σ x,σ y] 9 (0,0))):=heap_alloc_new w1 _;clear XD hk1 h1 Lg HN EP sK Sl;go_wp2;clear q1 q2;obtain⟨gl,hgl⟩:=Mem.QD (w1.heap.size);have uQ:=QA hgl;rw[hgl]at XW;try rw[hgl]
 obtain⟨w2,hw2⟩:=Mem.QD (w1.alloc (θ #[σ x,σ y] 9));rw[hw2]at BA SF XW;try rw[hw2]
 clear hw2 hgl
 go_loopw [0,17] (fun s0 SK wr=>∃(i:Nat)(v:Value)(lw:List UInt8),i≤2∧s0=v∧SK=ι γ (i:Int)∧Hid (lw=l++V3 k++BN x y i)∧Hid (Wd wr B v lw)∧Hid (Kp B w2 wr)) (fun _ s _=>2-(intOf s).toNat)
 case atStart=>exact⟨0,_,l1,δ,rfl,rfl,sO.out,BA.out,Kp.refl _ _⟩
 case round =>
  clear BA;obtain⟨i,v,lw,hi,rfl,rfl,Rq,HW,HK⟩:=hrel;obtain⟨a3,c3,rfl,_,_⟩:=Q0 HW.out;by_cases hlt:i<2
  ·have hlt':(i:Int)<2:=ω
   have xg:(0:Int)≤(i:Int):=ω
   obtain⟨tt,ht1,ht2,JY⟩:∃tt:ByteArray,(#[σ x,σ y]:Array Value)[i]?=some (σ tt)∧tt.size≤1000000∧BN x y (i+1)=BN x y i++NG tt:=by
    have RY:i=0∨i=1:=ω
    rcases RY with rfl|rfl
    ·exact⟨x,rfl,HX.out,by simp[BN]⟩
    ·exact⟨y,rfl,HY.out,by simp[BN]⟩
   have hlb:=HK.out.block XW.out (by intro c fz e;injection e with _ e _;exact absurd e δ);have hc:=U1 hlb ht1;have hsz:((tt.size:Nat):Int)≤9223372036854775807:=ω
   have hlen:lw.length≤200000000:=by
    rw[Rq.out]
    have hnn:∀z:ByteArray,z.size≤1000000→(NG z).length≤1000022:=fun z hz=>by
     unfold NG V3;have e:z.data.toList.length=z.size:=Array.length_toList;have:=Lib.itoa_length_le (z.size:Int) ω ω;rw[ZU,ZU,e];simp only[List.length_cons,List.length_nil];omega
    rw[ZU,ZU];have h1:=TU.out;have h2:=HL.out;have h3:=hnn x HX.out;have h4:=hnn y HY.out;unfold BN;split
    ·simp;omega
    ·split
     ·omega
     ·rw[ZU];omega
   have EO:Hid (OC B wr):=(HP.out.on SF.out.QF).on HK.out.QF;have hBr:B≤wr.heap.size:=QW (QW JP.out SF.out.QF.size) HK.out.QF.size;have HN:=QA (Ev (tt.size:Int) ω hsz _ _ wr B HW.out hBr ω EO.out);have J':=QA hlen;have OL:=QA JY;have HTS:=QA ht2;have HI:=QA hlt;have rY:Hid ((V3 (tt.size:Int)).length≤22):=by show _≤_;unfold V3;rw[ZU];have:=Lib.itoa_length_le (tt.size:Int) ω hsz;simp;omega
   clear ht1 ht2 JY hlb hlen hlt;go_wp2_with fail;refine HN.out.mono ?_;rintro e w3 ⟨v3,rfl,UY,hk3⟩;obtain⟨l4,hl4⟩:=Mem.QD (lw++V3 (tt.size:Int));rw[hl4]at UY;have Bb:=QA hl4;have kW:l4.length≤200000022:=by rw[←hl4,ZU];have:=J'.out;have:=rY.out;omega
   have uH:=QA kW;obtain⟨a4,c4,rfl,_,_⟩:=Q0 UY;have vZ:=QA UY;have jl:=QA hk3;clear UY hk3 HN hc hl4 kW;go_wp2_with (at_builtin;refine Lib.wpList_append_own_string _ rfl _ _ 103 9 rfl B 5 i0 underlying103 underlying9 hi0 hw0 hw1 hw2 _ _ _ rfl vZ.out tt rfl (by have:=uH.out;have:=HTS.out;unfold maxLen;omega) (by have:=uH.out;have:=HTS.out;omega) (QW hBr jl.out.QF.size) ?_);intro v5 w5 CG Bq _;have Oh:=Kp.grown (e:=5) (QW hBr jl.out.QF.size) vZ.out Bq;have jk:=QA ((HK.out.trans jl.out).trans Oh);have oX:Hid (Wd w5 B v5 (l4++tt.data.toList)):=by show w5.ownsRow _ _ _ _ _ _;rw[Yh,ZU,Array.length_toList];exact CG
   have HE5:Hid (l4++tt.data.toList=l++V3 k++BN x y (i+1)):=by show _=_;rw[OL.out,←Bb.out,Rq.out];simp[NG]
   clear CG Bq Oh;go_wp2
   go_roundw
   case rel=>exact⟨i+1,v5,_,by have:=HI.out;omega,rfl,by go_num,HE5.out,oX.out,jk.out⟩
   case measure=>have:=HI.out;simp[intOf];omega
  ·obtain rfl:i=2:=ω
   have JM:Hid (Wd wr B (ς a3 lw.length c3) (l++ownB k x y)∧Kp B w wr):=by
    refine⟨?_,SF.out.trans HK.out⟩;have h:=HW.out;have e:lw=l++ownB k x y:=by rw[Rq.out];simp[BN,ownB]
    rw[←e];exact h
   clear HW HK hlt;go_wp2;go_ret;exact⟨_,rfl,JM.out⟩
end Shape
namespace Tree
open Mem
def UB:F→List Nd
 | .nil=>[]
 | .cons k x y c _=>⟨k,x,y,c⟩::UB c
def Te:F→List Nd
 | .nil=>[]
 | .cons _ _ _ c r=>Te c++nodes r
theorem Y3:∀c:F,nodes c=UB c++Te c
 | .nil=>rfl
 | .cons k x y c r=>by simp only[nodes,UB,Te,Y3 c,List.cons_append,List.append_assoc]
def Yw:Nat→F→F
 |0,c=>c
 |_+1,.nil=>.nil
 |i+1,.cons _ _ _ c _=>Yw i c
theorem Qhv:∀c:F,Yw (UB c).length c=.nil
 | .nil=>rfl
 | .cons k x y c r=>Qhv c
theorem Qfc:∀(i:Nat)(c:F),i<(UB c).length→∃k x y c' r,Yw i c=.cons k x y c' r∧Yw (i+1) c=c'
 |i,.nil,h=>by simp[UB]at h
 |0,.cons k x y c r,_=>⟨k,x,y,c,r,rfl,by cases c <;> rfl⟩
 |i+1,.cons k x y c r,h=>Qfc i c (by simpa[UB]using h)
theorem Qjv:∀(i:Nat)(nd:Nd),i≤(UB nd.c).length→∃n',(nd::UB nd.c)[i]?=some n'∧n'.c=Yw i nd.c
 |0,nd,_=>⟨nd,rfl,rfl⟩
 |i+1,nd,h=>by
  cases hc:nd.c with
  |nil=>rw[hc]at h;simp[UB]at h
  |cons k x y c r=>rw[hc]at h;obtain⟨n',h1,h2⟩:=Qjv i ⟨k,x,y,c⟩ (by simpa[UB]using h);exact⟨n',by simpa[UB]using h1,h2⟩
theorem Qfb:∀(i:Nat)(c:F),(Yw i c).size≤c.size
 |0,c=>Nat.le_refl _
 |i+1,.nil=>Nat.le_refl _
 |i+1,.cons k x y c r=>by have:=Qfb i c;simp only[Yw,F.size];omega
def Mi(B0 B:Nat):Nat→Prop:=fun b=>B0≤b∧b<B
theorem Fs.ZJ{w w':World}{B0 B n:Nat}{v:Value}{f:F}(h:Fs w (Mi B0 B) v f)(hb:Below n w w')(hB:B≤n):Fs w' (Mi B0 B) v f :=
 h.keep fun b hb'=>hb.block b (VE hb'.2 hB)
def TQ(w:World)(g:Nat)(v:Value):Prop:=w.heap[g]?=some (θ #[v] 22 (0,0))
theorem TQ.cell{w:World}{g:Nat}{v:Value}(h:TQ w g v):w.cell? ⟨g,0,none⟩=some v:=by
 unfold TQ at h;simp[World.cell?,h]
theorem TQ.JO{w:World}{g:Nat}{v:Value}(h:TQ w g v):w.frozen? ⟨g,0,none⟩=false:=by
 unfold TQ at h;simp[World.frozen?,h]
theorem TQ.lt{w:World}{g:Nat}{v:Value}(h:TQ w g v):g<w.heap.size:=lt_of_block h
theorem TQ.set{w:World}{g:Nat}{v:Value}(h:TQ w g v)(u:Value):TQ (w.setCell ⟨g,0,none⟩ u) g u:=by
 have:=Z8 h 0 u;unfold TQ;simpa using this
structure SI(w W:World)(gl:Nat)(v:Value):Prop where
 os:W.os=w.os
 tape:W.tape=w.tape
 output:W.output=w.output
 size:w.heap.size≤W.heap.size
 block:∀b,b<w.heap.size→b≠gl→some b≠v.ownBlock→W.heap[b]?=w.heap[b]?
structure Bz(w:World)(B0 B gl ga:Nat)(v:Value)(L:List Nd):Prop where
 box:TQ w gl v
 own:Zs w (Mi B0 B) v L
 d:∀g,v.ownBlock=some g→B≤g∧g≠gl∧g≠ga
 fn:w.cell? ⟨ga,0,none⟩=some (.func (.func 108) #[] #[π (some ⟨gl,0,none⟩),π (some ⟨ga,0,none⟩)])
 hB:B≤gl∧B≤ga∧gl≠ga∧B≤w.heap.size
 ha:ga<w.heap.size
structure V'(w W:World)(B0 B gl ga:Nat)(v v':Value)(L':List Nd):Prop where
 fr:SI w W gl v
 at_:Bz W B0 B gl ga v' L'
 nb:v'.ownBlock=v.ownBlock∨∃g,v'.ownBlock=some g∧w.heap.size≤g
section
variable {w W W':World}{B0 B gl ga:Nat}{v v' v2:Value}{L L' L2:List Nd}
theorem SI.refl(w:World)(gl:Nat)(v:Value):SI w w gl v:=⟨rfl,rfl,rfl,Nat.le_refl _,fun _ _ _ _=>rfl⟩
theorem SI.below(h:Below w.heap.size w W)(gl:Nat)(v:Value):SI w W gl v:=⟨h.os,h.tape,h.output,h.size,fun b hb _ _=>h.block b hb⟩
theorem SI.trans(h:SI w W gl v)(h2:SI W W' gl v')(nb:v'.ownBlock=v.ownBlock∨∃g,v'.ownBlock=some g∧w.heap.size≤g):SI w W' gl v :=
 ⟨h2.os.trans h.os,h2.tape.trans h.tape,h2.output.trans h.output,QW h.size h2.size,fun b hb h1 h3=>(h2.block b (VE hb h.size) h1 (fun e=>by
  rcases nb with nb|⟨g,nb,hg⟩
  ·exact h3 (e.trans nb)
  ·rw[nb]at e;have:=Option.some.inj e;omega)).trans (h.block b hb h1 h3)⟩
theorem Bz.later(h:Bz w B0 B gl ga v L)(hb:Below w.heap.size w W):Bz W B0 B gl ga v L :=
 ⟨(hb.block gl h.box.lt).trans h.box,h.own.later hb fun b hb'=>VE hb'.2 h.hB.2.2.2,h.d,(hb.cell (p:=⟨ga,0,none⟩) h.ha).trans h.fn,⟨h.hB.1,h.hB.2.1,h.hB.2.2.1,QW h.hB.2.2.2 hb.size⟩,VE h.ha hb.size⟩
theorem V'.refl(h:Bz w B0 B gl ga v L):V' w w B0 B gl ga v v L:=⟨SI.refl _ _ _,h,.inl rfl⟩
theorem V'.later(h:V' w W B0 B gl ga v v' L')(hb:Below W.heap.size W W'):V' w W' B0 B gl ga v v' L' :=
 ⟨h.fr.trans (SI.below hb gl v') h.nb,h.at_.later hb,h.nb⟩
theorem V'.trans(h:V' w W B0 B gl ga v v' L')(h2:V' W W' B0 B gl ga v' v2 L2):V' w W' B0 B gl ga v v2 L2 :=
 ⟨h.fr.trans h2.fr h.nb,h2.at_,by
  rcases h2.nb with e|⟨g,e,hg⟩
  ·rw[e];exact h.nb
  ·exact .inr ⟨g,e,QW h.fr.size hg⟩⟩
theorem V'.keep(h:V' w W B0 B gl ga v v' L'){b:Nat}(hb:b<w.heap.size)(h1:b≠gl)(h2:some b≠v.ownBlock):W.heap[b]?=w.heap[b]?:=h.fr.block b hb h1 h2
theorem SI.lo(h:SI w W gl v)(h0:Bz w B0 B gl ga v L){s:Value}{f:F}(hf:Fs w (Mi B0 B) s f):Fs W (Mi B0 B) s f :=
 hf.keep fun b hb=>by
  have hb':b<B:=hb.2;have:=h0.hB;exact h.block b ω ω fun e=>by have:=(h0.d b e.symm).1;omega
end
structure Hf(w W:World)(B0 B gl ga:Nat)(v v':Value)(L:List Nd)(nd:Nd)(q r:Bool):Prop where
 fr:SI w W gl v
 own:Zs W (Mi B0 B) v' (L++[if q=true then nd else⟨0,⟨#[]⟩,⟨#[]⟩,.nil⟩])
 box:TQ W gl (if r=true then v' else v)
 d:∀g,v'.ownBlock=some g→B≤g∧g≠gl∧g≠ga
 nb:v'.ownBlock=v.ownBlock∨∃g,v'.ownBlock=some g∧w.heap.size≤g
 hB:B≤gl∧B≤W.heap.size
section
variable {w W W':World}{B0 B gl ga:Nat}{v v':Value}{L:List Nd}{nd:Nd}{q r:Bool}
theorem Hf.later(h:Hf w W B0 B gl ga v v' L nd q r)(hb:Below W.heap.size W W'):Hf w W' B0 B gl ga v v' L nd q r :=
 ⟨h.fr.trans (SI.below hb gl v') h.nb,h.own.later hb fun b hb'=>VE hb'.2 h.hB.2,(hb.block gl h.box.lt).trans h.box,h.d,h.nb,h.hB.1,QW h.hB.2 hb.size⟩
theorem Hf.start(h:Bz W B0 B gl ga v L)(hw:Below w.heap.size w W)(ho:Zs W' (Mi B0 B) v' (L++[⟨0,⟨#[]⟩,⟨#[]⟩,.nil⟩]))(hg:W.grownBy W' v.ownBlock)(hv:v'.ownBlock=v.ownBlock∨v'.ownBlock=some W.heap.size):Hf w W' B0 B gl ga v v' L nd false false:=by
 have hgl:=h.box.lt;refine⟨(SI.below hw gl v).trans ⟨hg.os,hg.tape,hg.output,hg.size,fun b hb _ hne=>hg.block b hb hne⟩ (.inl rfl),ho,(hg.block gl hgl fun e=>(h.d gl e.symm).2.1 rfl).trans h.box,fun g e=>?_,?_,h.hB.1,QW h.hB.2.2.2 hg.size⟩
 ·rcases hv with hv|hv
  ·exact h.d g (hv ▸ e)
  ·rw[hv]at e;obtain rfl:=Option.some.inj e;have:=h.ha;have:=h.hB;exact⟨ω,ω,ω⟩
 ·rcases hv with hv|hv
  ·exact .inl hv
  ·exact .inr ⟨_,hv,hw.size⟩
theorem Hf.jA{g n c:Nat}{s:Value}(h:Hf w W B0 B gl ga v (ς (some ⟨g,0,none⟩) n c) L nd false r)(hf:Fs W (Mi B0 B) s nd.c):Hf w (KD W g L.length nd.k nd.x nd.y s) B0 B gl ga v (ς (some ⟨g,0,none⟩) n c) L nd true r:=by
 have hg:=El W g L.length nd.k nd.x nd.y s;have hd:=h.d g rfl
 have ho:=h.own.put L.length ψ nd.k nd.x nd.y s nd.c hf (fun b hb=>by
  have hb':b<B:=hb.2;have:=h.hB.2;exact⟨ω,ω⟩)
 rw[List.set_append_right _ _ (Nat.le_refl _),Nat.sub_self]at ho;refine⟨h.fr.trans (v':=ς (some ⟨g,0,none⟩) n c) ⟨hg.os,hg.tape,hg.output,hg.size,fun b hb _ hne=>hg.block b hb hne⟩ h.nb,ho,(hg.block gl h.box.lt fun e=>hd.2.1 (Option.some.inj e).symm).trans h.box,h.d,h.nb,h.hB.1,QW h.hB.2 hg.size⟩
theorem Hf.jB(h:Hf w W B0 B gl ga v v' L nd q false):Hf w (W.setCell ⟨gl,0,none⟩ v') B0 B gl ga v v' L nd q true:=by
 have hg:=Uo W gl 0 v';refine⟨⟨hg.os.trans h.fr.os,hg.tape.trans h.fr.tape,hg.output.trans h.fr.output,QW h.fr.size hg.size,fun b hb h1 h2=>(hg.block b (VE hb h.fr.size) fun e=>h1 (Option.some.inj e)).trans (h.fr.block b hb h1 h2)⟩,h.own.grown hg (.inr fun e=>(h.d _ e).2.1 rfl) fun b hb=>?_,h.box.set v',h.d,h.nb,h.hB.1,QW h.hB.2 hg.size⟩;have hb':b<B:=hb.2;have:=h.hB;exact⟨ω,fun e=>by have:=Option.some.inj e;omega⟩
theorem Hf.form{ln:Nat}(h:Hf w W B0 B gl ga v v' L nd q r)(hl:L.length=ln):∃g c,v'=ς (some ⟨g,0,none⟩) (ln+1) c:=by
 obtain⟨a,c,e,_,_⟩:=h.own.slice;have ho:=h.own;rw[e]at ho;obtain⟨g,s,e2,_⟩:=ho.at_ (i:=L.length) (nd:=if q=true then nd else⟨0,⟨#[]⟩,⟨#[]⟩,.nil⟩) ψ;exact⟨g,c,by rw[e,e2,List.length_append,hl];rfl⟩
theorem Hf.cells{g n c ln:Nat}(h:Hf w W B0 B gl ga v (ς (some ⟨g,0,none⟩) n c) L nd q r)(hl:L.length=ln) :
 (∃k x y s,W.cell? ⟨g,ln*4,none⟩=some (ι γ k)∧W.cell? ⟨g,ln*4+1,none⟩=some (σ x)∧W.cell? ⟨g,ln*4+2,none⟩=some (σ y)∧W.cell? ⟨g,ln*4+3,none⟩=some s)∧
 W.frozen? ⟨g,ln*4,none⟩=false∧W.frozen? ⟨g,ln*4+1,none⟩=false∧W.frozen? ⟨g,ln*4+2,none⟩=false∧W.frozen? ⟨g,ln*4+3,none⟩=false:=by
 obtain⟨g',s,e2,_,c0,c1,c2,c3,_⟩:=h.own.at_ (i:=L.length) (nd:=if q=true then nd else⟨0,⟨#[]⟩,⟨#[]⟩,.nil⟩) ψ;have e3:=Option.some.inj e2;injection e3 with e4;subst e4;rw[hl]at c0 c1 c2 c3;obtain⟨ps,_,ho,_⟩:=h.own;obtain⟨_,_,e,_,_⟩:=Q0 ho;injection e with _ e2' _;rw[←e2']at ho;exact⟨⟨_,_,_,_,c0,c1,c2,c3⟩,ho.frozenAt _,ho.frozenAt _,ho.frozenAt _,ho.frozenAt _⟩
theorem V'.Ao{W0:World}{g:Nat}{v0 v1 v2' v3:Value}{L':List Nd}(h:V' W0 W B0 B gl ga v v' L')(hg:W0.heap.size≤g)(WY:B≤W0.heap.size)(hgl:g≠gl)(hga:g≠ga)(hgo:some g≠v'.ownBlock):V' W0 ((((W.setCell ⟨g,0,none⟩ v0).setCell ⟨g,1,none⟩ v1).setCell ⟨g,2,none⟩ v2').setCell ⟨g,3,none⟩ v3) B0 B gl ga v v' L':=by
 have hbb:=Ji W g v0 v1 v2' v3;have hoth:=fun b (hb:b≠g)=>Vr W g b v0 v1 v2' v3 hb
 have hB:=h.at_.hB;refine⟨⟨hbb.os.trans h.fr.os,hbb.tape.trans h.fr.tape,hbb.output.trans h.fr.output,QW h.fr.size hbb.size,fun b hb h1 h2=>(hoth b ω).trans (h.fr.block b hb h1 h2)⟩,⟨(hoth gl (Ne.symm hgl)).trans h.at_.box,?_,h.at_.d,?_,⟨hB.1,hB.2.1,hB.2.2.1,QW hB.2.2.2 hbb.size⟩,VE h.at_.ha hbb.size⟩,h.nb⟩
 ·refine h.at_.own.grown ⟨hbb.os,hbb.tape,hbb.output,hbb.size,fun b _ hne=>hoth b fun e=>hne (by rw[e])⟩ (row:=some g) (.inr (Ne.symm hgo)) fun b hb=>?_
  have hb':b<B:=hb.2;have:=h.fr.size;have:=h.at_.box.lt;refine⟨ω,fun e=>?_⟩;have:=Option.some.inj e;omega
 ·exact(World.cell?_of_block (a:=⟨ga,0,none⟩) (hoth ga (Ne.symm hga))).trans h.at_.fn
theorem Hf.done(h:Hf w W B0 B gl ga v v' L nd true true)(h0:Bz w B0 B gl ga v L):V' w W B0 B gl ga v v' (L++[nd]):=by
 refine⟨h.fr,⟨h.box,h.own,h.d,?_,⟨h0.hB.1,h0.hB.2.1,h0.hB.2.2.1,h.hB.2⟩,VE h0.ha h.fr.size⟩,h.nb⟩;exact(World.cell?_of_block (a:=⟨ga,0,none⟩) (h.fr.block ga h0.ha (Ne.symm h0.hB.2.2.1) fun e=>(h0.d ga e.symm).2.2 rfl)).trans h0.fn
end
structure qC(w W:World)(B0 B gl ga:Nat)(v v':Value)(L:List Nd)(nd:Nd)(ch:List Nd)(k:Int)(x y:ByteArray)(s:Value)(c:F):Prop where
 add:V' w W B0 B gl ga v v' (L++ch)
 no:some w.heap.size≠v'.ownBlock
 box:Boxed W w.heap.size k x y s
 fs:Fs W (Mi B0 B) s c
 eq:ch++UB c=nd::UB nd.c
theorem V'.list{w W:World}{B0 B gl ga:Nat}{v v':Value}{L L':List Nd}(h:V' w W B0 B gl ga v v' L)(e:L=L'):V' w W B0 B gl ga v v' L':=e ▸ h
def Ym(N:Nat):Prop:=∀(k:Int)(x y:ByteArray)(A:Option Addr)(n C:Nat)(c:F)(w:World)(gl ga:Nat)(av:Option Addr)(ln Cv:Nat)(L:List Nd)(B0 B:Nat),c.size≤N→L.length+c.size+1≤1000000→Fs w (Mi B0 B) (ς A n C) c→Bz w B0 B gl ga (ς av ln Cv) L→
 Calls Tryz.prog 108 #[ξ #[ι γ k,σ x,σ y,ς A n C],π (some ⟨gl,0,none⟩),π (some ⟨ga,0,none⟩)] w fun e w'=>e=ρ (.tuple #[])∧∃(av':Option Addr)(ln' Cv':Nat),V' w w' B0 B gl ga (ς av ln Cv) (ς av' ln' Cv') (L++(⟨k,x,y,c⟩::nodes c))
theorem fQ(N:Nat)(ih:∀M,M<N→Ym M):Ym N:=by
 intro k x y A n C c w gl ga av ln Cv L B0 B hN hbig hf hl;have Sm:=QA ih;have Rq:=QA hl;have b1:=Qa w (θ #[ι γ k,σ x,σ y,ς A n C] 24);have OV:=QA (hl.later b1);have jr:Hid (V' w (w.alloc (θ #[ι γ k,σ x,σ y,ς A n C] 24)) B0 B gl ga (ς av ln Cv) (ς av ln Cv) L):=(V'.refl hl).later b1;have Rf:=QA (Vc w k x y (ς A n C));have LK:=QA (hf.ZJ b1 hl.hB.2.2.2);have MJ:Hid (w.heap.size≠gl∧some w.heap.size≠(ς av ln Cv).ownBlock):=⟨by have:=hl.box.lt;omega,fun e=>by have:=hl.own.lt e.symm;omega⟩;have IB:Hid (¬some w.heap.size=(ς av ln Cv).ownBlock):=fun e=>by have:=hl.own.lt e.symm;omega
 have Hj:Hid (gl<w.heap.size∧ga<w.heap.size∧B≤w.heap.size):=⟨hl.box.lt,hl.ha,hl.hB.2.2.2⟩;have J':Hid (L.length=ln):=by obtain⟨_,_,e,_,_⟩:=hl.own.slice;injection e with _ e2 _;exact e2.symm
 have Rc:Hid (L.length≤1000000):=by show _≤_;omega
 have mL:ln≤1000000:=by have:=J'.out;omega
 have hbc:=OV.out.box.cell;have Ty:=QA hbig;obtain⟨W0,hW0⟩:=Mem.QD ((w.alloc (θ #[ι γ k,σ x,σ y,ς A n C] 24)));have LY:Hid (W0.heap.size=w.heap.size+1):=by show _=_;rw[←hW0];simp
 rw[hW0]at OV jr Rf LK hbc;clear ih hf hl b1 hbig;go_enter Tryz.func108,Tryz.ntmps108;go_wp2;clear hbc hW0;refine Qbp [0,1,2,3,4] 4 6 7 (fun W W'=>Below W.heap.size W W') (fun W=>Below W0.heap.size W0 W) (fun q r v' W=>Hf W0 W B0 B gl ga (ς av ln Cv) v' L (⟨k,x,y,c⟩:Nd) q r) [Cd.any,Cd.any,Cd.any,⟨fun v W=>∃(b:Nat),v=ς (some ⟨b,0,none⟩) 1 1∧b<W.heap.size∧W.cell? ⟨b,0,none⟩=some (ι γ 0)∧W.cell? ⟨b,1,none⟩=some (σ ⟨#[]⟩)∧W.cell? ⟨b,2,none⟩=some (σ ⟨#[]⟩)∧W.cell? ⟨b,3,none⟩=some (ς none 0 0),fun v W W' hU h=>by obtain⟨b,e,h2,c0,c1,c2,c3⟩:=h;exact⟨b,e,VE h2 hU.size,(hU.cell (p:=⟨b,0,none⟩) h2).trans c0,(hU.cell (p:=⟨b,1,none⟩) h2).trans c1,(hU.cell (p:=⟨b,2,none⟩) h2).trans c2,(hU.cell (p:=⟨b,3,none⟩) h2).trans c3⟩⟩,Cd.any,Cd.any,Cd.any,Cd.any] [(fun v=>v=ς av ln Cv),(fun v=>v=ξ #[ι γ k,σ x,σ y,ς A n C]),(fun v=>v=ι γ (ln:Int)),(fun _=>True),(fun _=>True),(fun _=>True),(fun _=>True),(fun _=>True)] [(fun _ _=>True),(fun _ _=>True),(fun _ _=>True),(fun _ _=>True),(fun _ _=>True),(fun u v=>∀(g n c:Nat),u=ς (some ⟨g,0,none⟩) n c→v=π (some ⟨g,ln*4,none⟩)),(fun _ _=>True),(fun _ _=>True)] χ δ χ χ χ χ δ δ δ δ δ ((QE _ _).drew) (fun _ _ hU hS=>hS.trans (hU.mono hS.size)) (fun _ _ _ _ _ hU hS=>hS.later hU) ?steps ?behind
 case steps =>
  intro xv W a ha;simp only[Qi]at ha;simp only[ZC,ZA,QZ,ZL,Nat.reduceAdd]at ha;subst ha;refine⟨?s0,?s1,?s2,?s3,?s4,?s5,?s6,?s7,trivial⟩;all_goals intro hI hd xF pp qq rr hp0 hp1 hpre hpost hq0 VN hq1 hr1 K hK
  all_goals(try simp only[Act.put,ZC,ZA,QZ]at hK)
  case s0=>obtain rfl:=hpre (.inl χ);obtain⟨JD,he⟩:=hp0 rfl;clear hd hp0 hp1 hpre hpost hq0 VN hq1 hr1 he;refine(if_pos (by rfl)).mpr ?_;have JF:=(OV.out.later JD).box.cell;exact c21
  case s1=>obtain rfl:=hpre (.inl χ);obtain⟨JD,he⟩:=hp0 rfl;clear hd hp0 hp1 hpre hpost hq0 VN hq1 hr1 he;refine(if_pos (by rfl)).mpr ?_;obtain⟨hq0,hq1,hq2,Ns⟩:=(Rf.out.below JD Rf.out.lt).cells;exact c21
  case s2=>have hx0:xv 0=ς av ln Cv:=hd 0 χ;exact c118
  case s3=>exact c30
  case s4=>have hx0:xv 0=ς av ln Cv:=hd 0 χ;obtain rfl:=hpre (.inr rfl);obtain⟨JD,he⟩:=hp0 rfl;have cF:∃(b:Nat),xv 3=ς (some ⟨b,0,none⟩) 1 1∧b<W.heap.size∧W.cell? ⟨b,0,none⟩=some (ι γ 0)∧W.cell? ⟨b,1,none⟩=some (σ ⟨#[]⟩)∧W.cell? ⟨b,2,none⟩=some (σ ⟨#[]⟩)∧W.cell? ⟨b,3,none⟩=some (ς none 0 0):=he 3 χ;clear hd hp0 hp1 hpre hpost hq0 VN hq1 hr1 he;rw[hx0]at hK⊢;refine(if_pos (by rfl)).mpr ?_;obtain⟨b,e3,h2,u0,u1,u2,u3⟩:=cF;have Rq:=OV.out.later JD;rw[e3]at hK⊢;refine Eg _ _ rfl (Mi B0 B) (ς av ln Cv) L b 1 ⟨0,⟨#[]⟩,⟨#[]⟩,.nil⟩ (ς none 0 0) rfl rfl ⟨u0,u1,u2,u3⟩ Rq.own (V6 _ _) (fun b' hb'=>⟨VE hb'.2 Rq.hB.2.2.2,fun e=>by have:=(Rq.d b' e.symm).1;have hb2:b'<B:=hb'.2;omega⟩) Rc.out ?_;exact c69
  case s5 =>
   have hx2:xv 2=ι γ (ln:Int):=hd 2 χ;obtain rfl:=hpost χ;have EA:=hp1 rfl;clear hd hp0 hp1 hpre hpost hq0 VN hq1 hr1;rw[hx2]at hK⊢;refine(if_pos (by rfl)).mpr ?_;obtain⟨g',c',e4⟩:=EA.form J'.out;rw[e4]at hK⊢;have mJ:(ln:Int)<(ln:Int)+1:=ω
   go_simp;exact hK.out (π (some ⟨g',ln*4,none⟩)) _ (fun _ _ _=>⟨QE _ _,trivial⟩) (fun e=>absurd e δ) (fun e=>absurd e δ) (fun e=>absurd e δ) trivial (fun _ g n c e=>by injection e with e1 _ _;injection e1 with e1;injection e1 with e1;rw[e1])
  case s6=>have hx1:xv 1=ξ #[ι γ k,σ x,σ y,ς A n C]:=hd 1 χ;obtain rfl:=hpost χ;obtain rfl:=hq0 (.inr rfl);have EA:=hp1 rfl;clear hd hp0 hp1 hpre hpost hq0 VN hq1 hr1;rw[hx1]at hK⊢;refine(if_pos (by rfl)).mpr ?_;have Y':∀(g n c:Nat),xv 4=ς (some ⟨g,0,none⟩) n c→xv 5=π (some ⟨g,ln*4,none⟩):=xF 5 χ χ;obtain⟨g',c',e4⟩:=EA.form J'.out;have e5:=Y' _ _ _ e4;rw[e4]at EA hK⊢;rw[e5]at hK⊢;obtain⟨⟨kz,xz,yz,sz,z0,z1,z2,z3⟩,y0,y1,y2,y3⟩:=EA.cells J'.out;have hput:=EA.jA (s:=ς A n C) (EA.fr.lo OV.out LK.out);unfold KD at hput;rw[J'.out]at hput;exact c74
  case s7=>obtain rfl:=hpost χ;obtain rfl:=VN (.inr rfl);have EA:=hp1 rfl;clear hd hp0 hp1 hpre hpost hq0 VN hq1 hr1;refine(if_pos (by rfl)).mpr ?_;obtain⟨g',c',e4⟩:=EA.form J'.out;exact c46
 case behind =>
  intro xv W hW hx nI a ha;simp only[Qi]at ha;simp only[ZC,ZA,QZ,ZL,Nat.reduceAdd]at ha;subst ha;obtain⟨g',c',e4⟩:=hW.form J'.out;have hadd:=hW.done OV.out;rw[e4]at hadd⊢
  rename World=>w5
  have VI:=QA hadd;clear hx nI hW hadd e4;have HM:Hid (qC w w5 B0 B gl ga (ς av ln Cv) (ς (some ⟨g',0,none⟩) (ln+1) c') L ⟨k,x,y,c⟩ [(⟨k,x,y,c⟩:Nd)] k x y (ς A n C) c):=by
   refine⟨jr.out.trans VI.out,fun e=>?_,(VI.out.keep Rf.out.lt MJ.out.1 MJ.out.2).trans Rf.out,VI.out.fr.lo OV.out LK.out,rfl⟩;rcases VI.out.nb with h|⟨g,h,hg⟩
   ·rw[h]at e;exact IB.out e
   ·rw[h]at e;have:=Option.some.inj e;have:=LY.out;omega
  obtain⟨p0,p1,p2,p3⟩:=HM.out.box.cells;clear VI LK Rf MJ Rc jr OV;go_wp2
  go_loopg [16] (c.size+1) (fun p ED wr=>∃(kk:Int)(kx ky:ByteArray)(Ak:Option Addr)(kn Ck:Nat)(kc:F)(FW:Option Addr)(PB IP:Nat)(ch:List Nd),kc.size<p∧Hid (qC w wr B0 B gl ga (ς av ln Cv) (ς FW PB IP) L ⟨k,x,y,c⟩ ch kk kx ky (ς Ak kn Ck) kc))
  case atStart=>exact⟨k,x,y,A,n,C,c,some ⟨g',0,none⟩,ln+1,c',_,ω,HM.out⟩
  case round =>
   clear HM;obtain⟨kk,kx,ky,Ak,kn,Ck,kc,FW,PB,IP,ch,hsz,HM⟩:=hrel;obtain⟨p0,p1,p2,p3⟩:=HM.out.box.cells;obtain⟨_,_,e,_,hkC⟩:=HM.out.fs.slice;injection e with q1 q2 q3;have MG:=QA q2;have Q2w:Ck≤9223372036854775807:=ω
   have NU:Hid ((L++ch).length=PB):=by obtain⟨_,_,e,_,_⟩:=HM.out.add.at_.own.slice;injection e with _ e2 _;exact e2.symm
   clear q1 q2 q3 hkC;cases hkc:kc with
   |nil =>
    have hkn:kn=0:=by rw[MG.out,hkc];rfl
    have hch:ch=⟨k,x,y,c⟩::UB c:=by have:=HM.out.eq;rw[hkc]at this;simpa[UB]using this
    subst hkn;have VI:=QA HM.out.add;rw[hch]at VI NU;have hbl:=HM.out.add.at_.box.cell;obtain⟨m,hm⟩:=Mem.QD ((UB c).length);have YO:PB=ln+1+m:=by have:=NU.out;rw[ZU,J'.out,GW,hm]at this;omega
    have hmb:m≤1000000:=by have h1:=Qj c;rw[Y3,ZU,hm]at h1;have:=Ty.out;omega
    have TV:=QA hm;subst YO;have hw2:IntKind.i64.wrap (((ln+1+m:Nat):Int)-2)=((ln+m:Nat):Int)-1:=by rw[IntKind.wrap_i64];omega
    have zt:Hid (∀j,j≤m→∃n',(⟨k,x,y,c⟩::UB c:List Nd)[j]?=some n'∧n'.c=Yw j c):=fun j hj=>Qjv j ⟨k,x,y,c⟩ (by show j≤(UB c).length;omega)
    clear hkc hch HM hm MG NU;go_wp2;clear hbl hw2 p0 p1 p2 p3
    go_loopw [5] (fun s5 wq=>∃(j:Nat)(bt:Option Addr)(zK sV:Nat),j≤m∧s5=ι γ (((ln+j:Nat):Int)-1)∧Hid (V' w wq B0 B gl ga (ς av ln Cv) (ς bt zK sV) (L++((⟨k,x,y,c⟩::UB c)++Te (Yw j c))))) (fun s5 _=>(intOf s5-(ln:Int)+1).toNat)
    case atStart=>exact⟨m,FW,ln+1+m,IP,QI _,by rw[show(ln:Int)+1+(m:Int)-2=((ln+m:Nat):Int)-1 by omega],VI.out.list (by rw[←TV.out,Qhv];simp[Te])⟩
    case round =>
     clear VI;obtain⟨j,bt,zK,sV,hj,rfl,VI⟩:=hrel
     rename World=>wq
     have hbl:=VI.out.at_.box.cell;cases j with
     |zero =>
      have hlt':¬(ln:Int)≤((ln+0:Nat):Int)-1:=ω
      have HE:=QA (VI.out.list (L':=L++(⟨k,x,y,c⟩::nodes c)) (by rw[Y3];rfl));go_wp2;first|refine bodyPost_end (results_none rfl _ _ _) rfl ?_|refine bodyPost_ret (results_none rfl _ _ _) rfl ?_
      exact⟨rfl,bt,zK,sV,HE.out⟩
     |succ j =>
      rw[show((ln+(j+1):Nat):Int)-1=((ln+j:Nat):Int)by omega];obtain⟨ij,hij⟩:=Mem.QD (ln+j);obtain⟨k1,x1,y1,c1,r1,hs1,hs2⟩:=Qfc j c (by rw[TV.out];omega);obtain⟨n',Ri,Fx⟩:=zt.out j ω;have hnx:(L++((⟨k,x,y,c⟩::UB c)++Te (Yw (j+1) c)))[ln+j]?=some n':=by have hlt:=(List.getElem?_eq_some_iff.1 Ri).1;rw[List.getElem?_append_right (by rw[J'.out];omega),J'.out,show ln+j-ln=j by omega,List.getElem?_append_left hlt];exact Ri
      have hll:ln+j<zK:=by have hlt:=(List.getElem?_eq_some_iff.1 hnx).1;obtain⟨_,_,e,_,_⟩:=VI.out.at_.own.slice;injection e with _ e2 _;rw[e2];exact hlt
      obtain⟨g,s,rfl,hgl,d0,d1,d2,d3,VX⟩:=VI.out.at_.own.at_ hnx;rw[Fx,hs1]at VX;obtain⟨_,_,e,hrC,zO⟩:=VX.slice;have hsh:∃ba oa nr Cr,s=ς (some ⟨ba,oa,none⟩) nr Cr:=by obtain⟨b,off,_,_,_,e,_⟩:=VX;exact⟨b,off,_,_,e⟩
      obtain⟨ba,oa,nr,Cr,rfl⟩:=hsh;injection e with q1 q2 q3;obtain⟨t1,t2,t3,t4,tr1⟩:=VX.tail;obtain⟨A3,nq,Cq,hsl,en,eC,hA3⟩:=Ju ba oa nr Cr t1 t2;have hg1:=tr1 A3 hA3;rw[←en,←eC]at hg1
      have HKQ:Hid (∀(W:World)(v':Value)(LL:List Nd),V' w W B0 B gl ga (ς av ln Cv) v' LL→Fs W (Mi B0 B) (ς A3 nq Cq) r1):=fun W v' LL hA=>hg1.keep fun b hb=>by
       have hb':b<B:=hb.2;have h0:=Rq.out.hB;have h1:b<w.heap.size:=ω
       have h2:some b≠(ς av ln Cv).ownBlock:=fun e=>by have:=(Rq.out.d b e.symm).1;omega
       exact(hA.keep h1 ω h2).trans (VI.out.keep h1 ω h2).symm
      have aT:Hid (nq=r1.len):=by show _=_;omega
      have wI:=QA hij;rw[hij]at d3 hll⊢;have mQ:(ln:Int)≤(ij:Int):=ω
      have Q2q:(ij:Int)<(zK:Int):=ω
      have hi0:(0:Int)≤(ij:Int):=ω
      have Q22:ij≤2000000:=by have:=wI.out;omega
      have hjm:=hj;have Q3e:Cq≤9223372036854775807:=ω
      have Q2f:nq≤Cq:=ω
      have hr1:r1.size<c.size:=by have:=Qfb j c;rw[hs1]at this;simp only[F.size]at this;omega
      have Q2e:nq≤1000000:=by have:=F.QL r1;have:=Ty.out;have:=aT.out;omega
      have OM:Hid (L++((⟨k,x,y,c⟩::UB c)++Te (Yw (j+1) c))++nodes (r1.drop 0)=L++((⟨k,x,y,c⟩::UB c)++Te (Yw j c))):=by show _=_;rw[hs1,hs2];simp only[Te,F.drop,JZ]
      have XW:Hid ((L++((⟨k,x,y,c⟩::UB c)++Te (Yw j c))).length≤1000000):=by
       show _≤_;have hsub:∀(i:Nat)(f:F),(Te (Yw i f)).length≤(Te f).length:=by
        intro i
        induction i with
        |zero=>intro f;exact QI _
        |succ i ihi =>
         intro f;cases f with
         |nil=>exact QI _
         |cons _ _ _ cc rr=>have:=ihi cc;simp only[Yw,Te,ZU];omega
       have h1:=Qj c;rw[Y3,ZU]at h1;have:=hsub j c;have:=Ty.out;simp only[ZU,GW];omega
      obtain⟨TG,cZ⟩:=Mem.QD (L++((⟨k,x,y,c⟩::UB c:List Nd)++Te (Yw j c)));rw[cZ]at OM XW;have ak:Hid (TG=L++((⟨k,x,y,c⟩::UB c:List Nd)++Te (Yw j c))):=cZ.symm;clear cZ;clear hij hs1 hs2 Ri Fx hnx hll hgl d0 d1 d2 VX hrC zO q1 q2 q3 t1 t2 t3 t4 tr1 en eC hA3 hg1;go_wp2;clear hbl d3 mQ
      go_loopw [45] (fun tD W=>∃(i:Nat)(pd:Option Addr)(eX sU:Nat)(LL:List Nd),i≤nq∧tD=ι γ (i:Int)∧Hid (V' w W B0 B gl ga (ς av ln Cv) (ς pd eX sU) LL)∧Hid (LL++nodes (r1.drop i)=TG)) (fun tD _=>nq-(intOf tD).toNat)
      case atStart=>exact⟨0,some ⟨g,0,none⟩,zK,sV,_,Nat.zero_le _,rfl,VI.out,OM.out⟩
      case round =>
       clear VI OM;obtain⟨i,pd,eX,sU,LL,hi,rfl,VI,OM⟩:=hrel
       rename World=>W
       by_cases hlt:i<nq
       ·have hlt':(i:Int)<(nq:Int):=ω
        have KZ:(0:Int)≤(i:Int):=ω
        obtain⟨kk,kx,ky,kc,kr,hdr,YZ⟩:=F.drop_cons (n:=i) (f:=r1) (by rw[←aT.out];exact hlt);obtain⟨b2,UW,s2,rfl,hb2,_,VA⟩:=(HKQ.out W _ _ VI.out).at_ hdr;obtain⟨Ak,Ck,rfl,_,_⟩:=VA.kids.slice;obtain⟨kn,hkn⟩:=Mem.QD (kc.len);rw[hkn]at VA;have e0:=VA.c0;have e1:=VA.c1;have e2:=VA.c2;have e3:=VA.c3;have LU:=Ge hdr;have b5:=Qa W (θ #[ι γ kk,σ kx,σ ky,ς Ak kn Ck] 24);have dA:=VI.out.at_.later b5;have hlen:LL.length+kc.size+1≤1000000:=by have h1:=OM.out;have h2:=XW.out;rw[←h1,ZU,Qj,hdr]at h2;simp only[F.size]at h2;omega
        have HC:=QA (Sm.out kc.size ω kk kx ky Ak kn Ck kc _ gl ga pd eX sU LL B0 B (QI _) hlen (VA.kids.ZJ b5 VI.out.at_.hB.2.2.2) dA);have hfn:=dA.fn;obtain⟨z0,z1,z2,z3⟩:=(Vc W kk kx ky (ς Ak kn Ck)).cells;have HA5:=QA (VI.out.later b5);have MC:Hid ((LL++(⟨kk,kx,ky,kc⟩::nodes kc))++nodes (r1.drop (i+1))=TG):=by show _=_;rw[←OM.out,hdr,YZ];simp only[nodes,JZ,List.cons_append]
        clear hdr YZ hb2 VA hkn LU b5 dA hlen VI OM;go_wp2_with fail;refine HC.out.mono ?_;rintro e w6 ⟨rfl,av5,ln5,Cv5,hadd⟩;have HA6:=QA (HA5.out.trans hadd);clear hadd HA5 HC hfn z0 z1 z2 z3 e0 e1 e2 e3;go_wp2
        go_roundw
        case rel=>exact⟨i+1,av5,ln5,Cv5,_,ω,by go_num,HA6.out,MC.out⟩
        case measure=>simp[intOf];omega
       ·have hlt':¬(i:Int)<(nq:Int):=ω
        have HE:Hid (LL=TG):=by show _=_;rw[←OM.out,F.JG _ _ (by rw[←aT.out];omega)];simp[nodes]
        have hwr:IntKind.i64.wrap ((ij:Int)-1)=(ij:Int)-1:=by rw[IntKind.wrap_i64];omega
        clear hlt;go_wp2
        go_roundw
        case rel=>exact⟨j,pd,eX,sU,ω,by rw[wI.out],VI.out.list (by rw[HE.out];exact ak.out)⟩
        case measure=>have:=wI.out;simp[intOf];omega
   |cons k1 x1 y1 c1 r1 =>
    rw[hkc]at HM hsz MG;obtain⟨ba,oa,s1,rfl,xS,_,hat⟩:=HM.out.fs.at_ (i:=0) rfl;obtain⟨A1,C1,rfl,_,_⟩:=hat.kids.slice;obtain⟨n1,Ri⟩:∃m,c1.len=m:=⟨_,rfl⟩;rw[Ri]at hat;have e0:=hat.c0;have e1:=hat.c1;have e2:=hat.c2;have e3:=hat.c3;simp only[Nat.zero_mul,Nat.add_zero]at e0 e1 e2 e3;have hkn:(0:Int)<(kn:Int):=by rw[MG.out];simp only[F.len];omega
    have Q2u:0<kn:=ω
    simp only[F.size]at hsz;obtain⟨y0,y1',y2,y3⟩:=JO HM.out.box;have MJ:Hid (w.heap.size≠gl∧some w.heap.size≠(ς FW PB IP).ownBlock):=⟨by have:=Hj.out.1;omega,HM.out.no⟩;have zy:=X3 (k1:=k1) (x1:=x1) (y1:=y1) (s1:=ς A1 n1 C1) HM.out.box;have IJ:=HM.out.add.Ao (g:=w.heap.size) (v0:=ι γ k1) (v1:=σ x1) (v2':=σ y1) (v3:=ς A1 n1 C1) (QI _) Hj.out.2.2 MJ.out.1 (by have:=Hj.out.2.1;omega) MJ.out.2;have zo:Fs ((((wr.setCell ⟨w.heap.size,0,none⟩ (ι γ k1)).setCell ⟨w.heap.size,1,none⟩ (σ x1)).setCell ⟨w.heap.size,2,none⟩ (σ y1)).setCell ⟨w.heap.size,3,none⟩ (ς A1 n1 C1)) (Mi B0 B) (ς A1 n1 C1) c1:=hat.kids.keep fun b hb=>Vr _ _ _ _ _ _ _ (by have hb':b<B:=hb.2;have:=Hj.out.2.2;omega)
    obtain⟨W9,hW9⟩:∃W9,((((wr.setCell ⟨w.heap.size,0,none⟩ (ι γ k1)).setCell ⟨w.heap.size,1,none⟩ (σ x1)).setCell ⟨w.heap.size,2,none⟩ (σ y1)).setCell ⟨w.heap.size,3,none⟩ (ς A1 n1 C1))=W9:=⟨_,rfl⟩;rw[hW9]at zy IJ zo;have ER:=QA zy;have HA9:=QA IJ;have jg:=QA IJ.at_;have sL:=QA zo;have jn:=QA HM.out.eq;obtain⟨L2,hL2⟩:=Mem.QD (L++ch);have LH:Hid (L2=L++ch):=hL2.symm;rw[hL2]at NU jg HA9;have NV:=NU;have wE:Hid (L2.length≤1000000):=by show _≤_;have h1:=Qj c;rw[Y3,ZU]at h1;have h2:=congrArg List.length jn.out;simp only[ZU,GW]at h2;have:=Ty.out;rw[LH.out,ZU];omega
    clear HM xS hat Ri hkc zy IJ zo hL2 NU;go_wp2;clear hW9 p0 p1 p2 p3 y0 y1' y2 y3 e0 e1 e2 e3;refine Qbp [0,1,2,3,4] 4 6 7 (fun W W'=>Below W.heap.size W W') (fun W=>Below W9.heap.size W9 W) (fun q r v' W=>Hf W9 W B0 B gl ga (ς FW PB IP) v' L2 (⟨k1,x1,y1,c1⟩:Nd) q r) [Cd.any,Cd.any,Cd.any,⟨fun v W=>∃(b:Nat),v=ς (some ⟨b,0,none⟩) 1 1∧b<W.heap.size∧W.cell? ⟨b,0,none⟩=some (ι γ 0)∧W.cell? ⟨b,1,none⟩=some (σ ⟨#[]⟩)∧W.cell? ⟨b,2,none⟩=some (σ ⟨#[]⟩)∧W.cell? ⟨b,3,none⟩=some (ς none 0 0),fun v W W' hU h=>by obtain⟨b,e,h2,c0,c1,c2,c3⟩:=h;exact⟨b,e,VE h2 hU.size,(hU.cell (p:=⟨b,0,none⟩) h2).trans c0,(hU.cell (p:=⟨b,1,none⟩) h2).trans c1,(hU.cell (p:=⟨b,2,none⟩) h2).trans c2,(hU.cell (p:=⟨b,3,none⟩) h2).trans c3⟩⟩,Cd.any,Cd.any,Cd.any,Cd.any] [(fun v=>v=ς FW PB IP),(fun v=>v=ξ #[ι γ k1,σ x1,σ y1,ς A1 n1 C1]),(fun v=>v=ι γ (PB:Int)),(fun _=>True),(fun _=>True),(fun _=>True),(fun _=>True),(fun _=>True)] [(fun _ _=>True),(fun _ _=>True),(fun _ _=>True),(fun _ _=>True),(fun _ _=>True),(fun u v=>∀(g n c:Nat),u=ς (some ⟨g,0,none⟩) n c→v=π (some ⟨g,PB*4,none⟩)),(fun _ _=>True),(fun _ _=>True)] χ δ χ χ χ χ δ δ δ δ δ ((QE _ _).drew) (fun _ _ hU hS=>hS.trans (hU.mono hS.size)) (fun _ _ _ _ _ hU hS=>hS.later hU) ?steps ?behind
    case steps =>
     intro xv W a ha;simp only[Qi]at ha;simp only[ZC,ZA,QZ,ZL,Nat.reduceAdd]at ha;subst ha;refine⟨?s0,?s1,?s2,?s3,?s4,?s5,?s6,?s7,trivial⟩;all_goals intro hI hd xF pp qq rr hp0 hp1 hpre hpost hq0 VN hq1 hr1 K hK
     all_goals(try simp only[Act.put,ZC,ZA,QZ]at hK)
     case s0=>obtain rfl:=hpre (.inl χ);obtain⟨JD,he⟩:=hp0 rfl;clear hd hp0 hp1 hpre hpost hq0 VN hq1 hr1 he;refine(if_pos (by rfl)).mpr ?_;have JF:=(jg.out.later JD).box.cell;exact c21
     case s1=>obtain rfl:=hpre (.inl χ);obtain⟨JD,he⟩:=hp0 rfl;clear hd hp0 hp1 hpre hpost hq0 VN hq1 hr1 he;refine(if_pos (by rfl)).mpr ?_;obtain⟨hq0,hq1,hq2,Ns⟩:=(ER.out.below JD ER.out.lt).cells;exact c21
     case s2=>have hx0:xv 0=ς FW PB IP:=hd 0 χ;exact c118
     case s3=>exact c30
     case s4=>have hx0:xv 0=ς FW PB IP:=hd 0 χ;obtain rfl:=hpre (.inr rfl);obtain⟨JD,he⟩:=hp0 rfl;have cF:∃(b:Nat),xv 3=ς (some ⟨b,0,none⟩) 1 1∧b<W.heap.size∧W.cell? ⟨b,0,none⟩=some (ι γ 0)∧W.cell? ⟨b,1,none⟩=some (σ ⟨#[]⟩)∧W.cell? ⟨b,2,none⟩=some (σ ⟨#[]⟩)∧W.cell? ⟨b,3,none⟩=some (ς none 0 0):=he 3 χ;clear hd hp0 hp1 hpre hpost hq0 VN hq1 hr1 he;rw[hx0]at hK⊢;refine(if_pos (by rfl)).mpr ?_;obtain⟨b,e3,h2,u0,u1,u2,u3⟩:=cF;have Rq:=jg.out.later JD;rw[e3]at hK⊢;refine Eg _ _ rfl (Mi B0 B) (ς FW PB IP) L2 b 1 ⟨0,⟨#[]⟩,⟨#[]⟩,.nil⟩ (ς none 0 0) rfl rfl ⟨u0,u1,u2,u3⟩ Rq.own (V6 _ _) (fun b' hb'=>⟨VE hb'.2 Rq.hB.2.2.2,fun e=>by have:=(Rq.d b' e.symm).1;have hb2:b'<B:=hb'.2;omega⟩) wE.out ?_;exact c69
     case s5 =>
      have hx2:xv 2=ι γ (PB:Int):=hd 2 χ;obtain rfl:=hpost χ;have EA:=hp1 rfl;clear hd hp0 hp1 hpre hpost hq0 VN hq1 hr1;rw[hx2]at hK⊢;refine(if_pos (by rfl)).mpr ?_;obtain⟨g',c',e4⟩:=EA.form NV.out;rw[e4]at hK⊢;have mJ:(PB:Int)<(PB:Int)+1:=ω
      go_simp;exact hK.out (π (some ⟨g',PB*4,none⟩)) _ (fun _ _ _=>⟨QE _ _,trivial⟩) (fun e=>absurd e δ) (fun e=>absurd e δ) (fun e=>absurd e δ) trivial (fun _ g n c e=>by injection e with e1 _ _;injection e1 with e1;injection e1 with e1;rw[e1])
     case s6=>have hx1:xv 1=ξ #[ι γ k1,σ x1,σ y1,ς A1 n1 C1]:=hd 1 χ;obtain rfl:=hpost χ;obtain rfl:=hq0 (.inr rfl);have EA:=hp1 rfl;clear hd hp0 hp1 hpre hpost hq0 VN hq1 hr1;rw[hx1]at hK⊢;refine(if_pos (by rfl)).mpr ?_;have Y':∀(g n c:Nat),xv 4=ς (some ⟨g,0,none⟩) n c→xv 5=π (some ⟨g,PB*4,none⟩):=xF 5 χ χ;obtain⟨g',c',e4⟩:=EA.form NV.out;have e5:=Y' _ _ _ e4;rw[e4]at EA hK⊢;rw[e5]at hK⊢;obtain⟨⟨kz,xz,yz,sz,z0,z1,z2,z3⟩,y0,y1,y2,y3⟩:=EA.cells NV.out;have hput:=EA.jA (s:=ς A1 n1 C1) (EA.fr.lo jg.out sL.out);unfold KD at hput;rw[NV.out]at hput;exact c74
     case s7=>obtain rfl:=hpost χ;obtain rfl:=VN (.inr rfl);have EA:=hp1 rfl;clear hd hp0 hp1 hpre hpost hq0 VN hq1 hr1;refine(if_pos (by rfl)).mpr ?_;obtain⟨g',c',e4⟩:=EA.form NV.out;exact c46
    case behind =>
     intro xv W hW hx nI a ha;simp only[Qi]at ha;simp only[ZC,ZA,QZ,ZL,Nat.reduceAdd]at ha;subst ha;obtain⟨g',c',e4⟩:=hW.form NV.out;have hadd:=hW.done jg.out;rw[e4]at hadd⊢
     rename World=>w6
     have VI:=QA hadd;clear hx nI hW hadd e4;have SB:Hid (qC w w6 B0 B gl ga (ς av ln Cv) (ς (some ⟨g',0,none⟩) (PB+1) c') L ⟨k,x,y,c⟩ (ch++[(⟨k1,x1,y1,c1⟩:Nd)]) k1 x1 y1 (ς A1 n1 C1) c1):=by
      refine⟨(HA9.out.trans VI.out).list (by rw[LH.out,JZ]),fun e=>?_,(VI.out.keep ER.out.lt MJ.out.1 MJ.out.2).trans ER.out,VI.out.fr.lo jg.out sL.out,?_⟩
      ·rcases VI.out.nb with h|⟨g,h,hg⟩
       ·rw[h]at e;exact MJ.out.2 e
       ·rw[h]at e;have:=Option.some.inj e;have:=ER.out.lt;omega
      ·have:=jn.out;simpa[UB]using this
     go_wp2
     go_roundg (c1.size+1)
     case measure=>omega
     case rel=>exact⟨k1,x1,y1,A1,n1,C1,c1,some ⟨g',0,none⟩,PB+1,c',ch++[(⟨k1,x1,y1,c1⟩:Nd)],ω,SB.out⟩
