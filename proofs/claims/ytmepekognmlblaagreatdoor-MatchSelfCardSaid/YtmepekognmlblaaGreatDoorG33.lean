import Derived.Test.YtmepekognmlblaaGreatDoorG32
set_option maxHeartbeats 32000000
set_option maxRecDepth 100000
set_option linter.unusedVariables false
open Go.ChangeShapes Go.WideShapes Go.ChangeAt Go.RowKit
open Go.Lib renaming hid→QA
open Go.Value renaming int→ι,slice→ς,pointer→π,bool→τ
open Go.IntKind renaming i64→γ
open Go.Ending renaming returned→ρ
namespace Go.Proofs.YtmepekognmlblaaGreatDoor
namespace Match
open Mem Tree Shape
theorem Qhu{w:World}{g n gf K:Nat}{caps:Array Value}{z d:Nat→Nat}{r:List Value}(h:ZP w g n d r)(hc:Uf w g gf caps z K)(hK:∀i,i<n→d i<K)(hz:∀x,z x≤1000000)(C a m b:Nat)(hm:m+1=b)(vg:a+1<m)(hb:b≤n)(hn:n≤1000000)(kF:SO z d a m)(hx:XX z d a m b) :
 Calls Tryz.prog 129 #[ς (some ⟨g,0,none⟩) n C,ι γ (a:Int),ι γ (m:Int),ι γ (b:Int),.func (.func gf) #[] caps] w (Xn w g n r z d a b):=by
 have HC:=Lib.hid hc;have HK:=Lib.hid hK;have HZ:=Lib.hid hz;have qJ:=Lib.hid kF;have HX:=Lib.hid hx;have eg:=hc.1;unfold Vp at eg;have HM:=Lib.hid hm;obtain⟨ma,Bo⟩:∃ma:Int,(m:Int)-(a:Int)=ma:=⟨_,rfl⟩;have w1:IntKind.i64.wrap ((m:Int)-(a:Int))=ma:=by rw[IntKind.wrap_i64];omega
 have w0:((ma:Int)==1)=false:=by rw[beq_eq_false_iff_ne];omega
 have w2:IntKind.i64.wrap ((b:Int)-(m:Int))=1:=by rw[IntKind.wrap_i64];omega
 have HD:Hid ((QB g g w w∧ZP w g n d r)∧(∀k,a≤k→k<a→z (d m)≤z (d k))∧∀k,m≤k→k<m→z (d k)<z (d m)):=⟨⟨QB.refl g g w,h⟩,fun k h1 h2=>ω,fun k h1 h2=>ω⟩;have Q3d:a<m:=ω
 have Q2n:m<b:=ω
 clear h hc hK hz kF hx hm Bo;go_enter Tryz.func129,Tryz.ntmps129;go_wp2;clear w0 w1 w2
 go_loopw [14,15] (fun UU PA wr=>∃i j:Nat,(a≤i∧i≤j∧j≤m)∧UU=ι γ (i:Int)∧PA=ι γ (j:Int)∧Hid ((QB g g w wr∧ZP wr g n d r)∧(∀k,a≤k→k<i→z (d m)≤z (d k))∧∀k,j≤k→k<m→z (d k)<z (d m))) (fun s t _=>(intOf t).toNat-(intOf s).toNat)
 case atStart=>exact⟨a,m,⟨Nat.le_refl _,ω,Nat.le_refl _⟩,rfl,rfl,HD⟩
 case round =>
  clear HD;obtain⟨i,j,⟨hi1,hi2,PL⟩,rfl,rfl,HD⟩:=hrel;by_cases hij:i<j
  ·have Di:(i:Int)<(j:Int):=ω
   obtain⟨s,hs⟩:=Mem.QD (i+j);obtain⟨q,hq⟩:=Mem.QD (s/2);have w1:IntKind.i64.wrap ((i:Int)+(j:Int))=(s:Int):=by rw[IntKind.wrap_i64];omega
   have w2:IntKind.u64.wrap (s:Int)=(s:Int):=by rw[IntKind.wrap_u64];omega
   have w3:(s:Int)/2=(q:Int):=ω
   have w4:IntKind.u64.wrap (q:Int)=(q:Int):=by rw[IntKind.wrap_u64];omega
   have w5:IntKind.i64.wrap (q:Int)=(q:Int):=by rw[IntKind.wrap_i64];omega
   obtain⟨p1,f1⟩:=HD.out.1.2.cell (i:=q) ω;obtain⟨p2,f2⟩:=HD.out.1.2.cell (i:=m) ω;have Pv:Hid (∀q',Calls Tryz.prog gf (#[ι γ (d m:Int),ι γ (d q:Int)]++caps) (wr.drewN q') fun e W'=>e=ρ (ι γ ((z (d q):Int)-(z (d m):Int)))∧∃q'',W'=(wr.drewN q').drewN q''):=fun q'=>HC.out.2 _ (HD.out.1.1.trans (QB.drewN wr q')) _ _ (HK.out m ω) (HK.out q ω)
   obtain⟨c,hc⟩:∃c:Int,(z (d q):Int)-(z (d m):Int)=c:=⟨_,rfl⟩;rw[hc]at Pv;have hz1:=HZ.out (d m);have hz2:=HZ.out (d q);have t1:(0:Int)≤(q:Int):=ω
   have t2:(q:Int)<(n:Int):=ω
   have t3:(0:Int)≤(m:Int):=ω
   have t4:(m:Int)<(n:Int):=ω
   have HQ:Hid (i≤q∧q<j):=⟨ω,ω⟩;by_cases hlt:c<0
   ·have HN:Hid (∀q',(QB g g w (wr.drewN q')∧ZP (wr.drewN q') g n d r)∧(∀k,a≤k→k<i→z (d m)≤z (d k))∧∀k,q≤k→k<m→z (d k)<z (d m)):=fun q'=>⟨⟨HD.out.1.1.trans (QB.drewN wr q'),HD.out.1.2⟩,HD.out.2.1,Qwk qJ.out ω ω⟩
    generalize d q=x at *;generalize d m=y at *;clear HD hs hq hz1 hz2 hc hij;go_wp2
    go_quiet ((refine(Pv.out _).mono ?_;rintro e w9 ⟨he,m9,JC⟩;exact⟨he,_,by rw[JC,World.drewN_drewN]⟩))
    go_wp2
    go_roundw
    case rel=>exact c79
    case measure=>have:=HQ.out;simp[intOf];omega
   ·have hd:decide (c<0)=false:=decide_eq_false hlt;have HN:Hid (∀q',(QB g g w (wr.drewN q')∧ZP (wr.drewN q') g n d r)∧(∀k,a≤k→k<q+1→z (d m)≤z (d k))∧∀k,j≤k→k<m→z (d k)<z (d m)):=fun q'=>⟨⟨HD.out.1.1.trans (QB.drewN wr q'),HD.out.1.2⟩,Qzj qJ.out ω ω,HD.out.2.2⟩
    generalize d q=x at *;generalize d m=y at *;clear HD hs hq hz1 hz2 hc hij;go_wp2
    go_quiet ((refine(Pv.out _).mono ?_;rintro e w9 ⟨he,m9,JC⟩;exact⟨he,_,by rw[JC,World.drewN_drewN]⟩))
    go_wp2
    go_roundw
    case rel=>exact c71
    case measure=>have:=HQ.out;simp[intOf];omega
  ·obtain rfl:j=i:=ω
   have Di:¬(j:Int)<(j:Int):=ω
   have HS:Hid (SO z (Qx d j m b) a b∧Pm a b d (Qx d j m b)):=by have h1:=HM.out;subst h1;exact⟨Qsa qJ.out HX.out hi1 PL HD.out.2.1 HD.out.2.2,(pN d PL ω).mono hi1 (Nat.le_refl _)⟩
   have Bh:Hid (QB g g w wr∧ZP wr g n (Qx d m m b) r):=⟨HD.out.1.1,by rw[il d (.inl rfl)];exact HD.out.1.2⟩;clear HD;go_wp2
   go_loopw [17] (fun SK wr=>∃k:Nat,(j≤k∧k≤m)∧SK=ι γ (k:Int)∧Hid (QB g g w wr∧ZP wr g n (Qx d k m b) r)) (fun s _=>(intOf s).toNat)
   case atStart=>exact⟨m,⟨PL,Nat.le_refl _⟩,rfl,Bh⟩
   case round =>
    clear Bh;obtain⟨k,⟨hk1,hk2⟩,rfl,HD⟩:=hrel;by_cases zU:j<k
    ·have Ww:(j:Int)<(k:Int):=ω
     obtain⟨k',hk'⟩:∃k',k'+1=k:=⟨k-1,ω⟩;obtain⟨p1,f1⟩:=HD.out.2.cell (i:=k) ω;obtain⟨p2,f2⟩:=HD.out.2.cell (i:=k') ω;have HN:Hid (∀q2,QB g g w (((wr.setCell ⟨g,k,none⟩ (ι γ (Qx d k m b k':Int))).setCell ⟨g,k',none⟩ (ι γ (Qx d k m b k:Int))).drewN q2)∧ZP (((wr.setCell ⟨g,k,none⟩ (ι γ (Qx d k m b k':Int))).setCell ⟨g,k',none⟩ (ι γ (Qx d k m b k:Int))).drewN q2) g n (Qx d k' m b) r):=by intro q2;refine⟨(HD.out.1.trans (Um _ _ _ _ _ _)).trans (QB.drewN _ q2),?_⟩;have h1:=HM.out;subst h1;rw[Qrt d (show k'<m by omega),hk'];exact HD.out.2.swap (W:=wr) ω ω
     have w2:IntKind.i64.wrap ((k:Int)-1)=(k':Int):=by rw[IntKind.wrap_i64];omega
     have t1:(0:Int)≤(k:Int):=ω
     have t2:(k:Int)<(n:Int):=ω
     have t3:(0:Int)≤(k':Int):=ω
     have t4:(k':Int)<(n:Int):=ω
     have KA:Hid ((j≤k'∧k'≤m)∧k'<k):=⟨⟨ω,ω⟩,ω⟩;generalize Qx d k m b k=x at *;generalize Qx d k m b k'=y at *;have n1:k≠k':=ω
     have n2:k'≠k:=ω
     clear HD hk';go_wp2
     go_region
     go_wp2
     go_roundw
     case rel=>exact⟨k',KA.out.1,rfl,HN.out _⟩
     case measure=>have:=KA.out;simp[intOf];omega
    ·obtain rfl:k=j:=ω
     have Ww:¬(k:Int)<(k:Int):=ω
     go_wp2
     go_end0
     exact⟨rfl,HD.out.1,Qx d k m b,HD.out.2,HS.out.2,HS.out.1⟩
def Qt6(g n gf K C:Nat)(caps:Array Value)(z:Nat→Nat)(r:List Value)(len:Nat):Prop :=
 ∀(w:World)(d:Nat→Nat)(a m b:Nat),ZP w g n d r→Uf w g gf caps z K→(∀i,i<n→d i<K)→a<m→m<b→b≤n→b-a≤len→SO z d a m→SO z d m b→XX z d a m b→
  Calls Tryz.prog 129 #[ς (some ⟨g,0,none⟩) n C,ι γ (a:Int),ι γ (m:Int),ι γ (b:Int),.func (.func gf) #[] caps] w (Xn w g n r z d a b)
theorem Qki{w:World}{g n gf K len:Nat}{caps:Array Value}{z d:Nat→Nat}{r:List Value}(C a m b:Nat)(hz:∀x,z x≤1000000)(hn:n≤1000000)(ih:Qt6 g n gf K C caps z r len)(h:ZP w g n d r)(hc:Uf w g gf caps z K)(hK:∀i,i<n→d i<K)(vg:a+1<m)(hmb:m+1<b)(hb:b≤n)(hlen:b-a≤len+1)(lo:SO z d a m)(hi:SO z d m b)(hx:XX z d a m b) :
 Calls Tryz.prog 129 #[ς (some ⟨g,0,none⟩) n C,ι γ (a:Int),ι γ (m:Int),ι γ (b:Int),.func (.func gf) #[] caps] w (Xn w g n r z d a b):=by
 have HC:=QA hc;have HK:=QA hK;have HZ:=QA hz;have Sm:=QA ih;have HO:=QA (show SO z d a m∧SO z d m b∧XX z d a m b from⟨lo,hi,hx⟩);have HW:=QA h;have eg:=hc.1;unfold Vp at eg;obtain⟨ma,Bo⟩:∃ma:Int,(m:Int)-(a:Int)=ma:=⟨_,rfl⟩;obtain⟨bm,Br⟩:∃bm:Int,(b:Int)-(m:Int)=bm:=⟨_,rfl⟩;obtain⟨s,hs⟩:=Mem.QD (a+b);obtain⟨mid,hmid⟩:=Mem.QD (s/2);obtain⟨nn,hnn⟩:=Mem.QD (mid+m);obtain⟨s0,hs0⟩:∃s0,s0=if m>mid then nn-b else a:=⟨_,rfl⟩
 obtain⟨r0,VN⟩:∃r0,r0=if m>mid then mid else m:=⟨_,rfl⟩
 obtain⟨pp,Hz⟩:=Mem.QD (nn-1);have w1:IntKind.i64.wrap ((m:Int)-(a:Int))=ma:=by rw[IntKind.wrap_i64];omega
 have w2:(ma==1)=false:=by rw[beq_eq_false_iff_ne];omega
 have w3:IntKind.i64.wrap ((b:Int)-(m:Int))=bm:=by rw[IntKind.wrap_i64];omega
 have w4:(bm==1)=false:=by rw[beq_eq_false_iff_ne];omega
 have w5:IntKind.i64.wrap ((a:Int)+(b:Int))=(s:Int):=by rw[IntKind.wrap_i64];omega
 have w6:IntKind.u64.wrap (s:Int)=(s:Int):=by rw[IntKind.wrap_u64];omega
 have w7:(s:Int)/2=(mid:Int):=ω
 have w8:IntKind.u64.wrap (mid:Int)=(mid:Int):=by rw[IntKind.wrap_u64];omega
 have w9:IntKind.i64.wrap (mid:Int)=(mid:Int):=by rw[IntKind.wrap_i64];omega
 have UT:IntKind.i64.wrap ((mid:Int)+(m:Int))=(nn:Int):=by rw[IntKind.wrap_i64];omega
 have Na:IntKind.i64.wrap ((nn:Int)-1)=(pp:Int):=by rw[IntKind.wrap_i64];omega
 have HM:Hid ((mid=(a+b)/2∧nn=mid+m)∧s0=(if m>mid then nn-b else a)∧r0=(if m>mid then mid else m)):=⟨⟨by rw[hs];exact hmid.symm,hnn.symm⟩,hs0,VN⟩;have Rb:=QA Hz;have lu:a<mid∧mid<b:=⟨ω,ω⟩;have hsr:(a≤s0∧s0≤r0)∧(r0≤m∧r0≤mid):=by
  by_cases hm:m>mid
  ·rw[if_pos hm]at hs0 VN;omega
  ·rw[if_neg hm]at hs0 VN;omega
 have Q2g:nn≤b+m:=ω
 have hnb:m>mid→b≤nn:=fun _=>ω
 have HLEN:=QA hlen;obtain⟨bb,hbb⟩:=Mem.QD (decide ((mid:Int)<(m:Int)));clear h hc hK hz ih lo hi hx Bo Br hs hmid hlen;go_enter Tryz.func129,Tryz.ntmps129
 go_upto_if 140 with(fail)
 go_cut [20,21]from 141 to 146 (fun SJ BQ W=>SJ=ι γ (s0:Int)∧BQ=ι γ (r0:Int)∧W=w)
 case first =>
  cases bb with
  |true =>
   have hm:m>mid:=by have:=of_decide_eq_true hbb;omega
   rw[if_pos hm]at hs0 VN;have Wm:=hnb hm;have w12:IntKind.i64.wrap ((nn:Int)-(b:Int))=(s0:Int):=by rw[IntKind.wrap_i64];omega
   go_wp2
   go_meet
   case rel=>exact⟨by rw[hs0],by rw[VN],rfl⟩
  |false =>
   have hm:¬m>mid:=by have:=of_decide_eq_false hbb;omega
   rw[if_neg hm]at hs0 VN;go_wp2
   go_meet
   case rel=>exact⟨by rw[hs0],by rw[VN],rfl⟩
 case rest =>
  obtain⟨rfl,rfl,hw⟩:=hcut;have hw':=hw.symm;clear hw;subst hw';have HD:Hid ((QB g g w w∧ZP w g n d r)∧(∀c,s0≤c→c<s0→z (d (nn-1-c))≤z (d c))∧∀c,r0≤c→c<r0→z (d c)<z (d (nn-1-c))):=⟨⟨QB.refl g g w,HW.out⟩,fun k h1 h2=>ω,fun k h1 h2=>ω⟩;clear hbb w1 w2 w3 w4 w5 w6 w7 w8 w9 UT hs0 VN hnn HW;go_wp2
  go_loopw [20,21] (fun SJ BQ wr=>∃i j:Nat,(s0≤i∧i≤j∧j≤r0)∧SJ=ι γ (i:Int)∧BQ=ι γ (j:Int)∧Hid ((QB g g w wr∧ZP wr g n d r)∧(∀c,s0≤c→c<i→z (d (nn-1-c))≤z (d c))∧∀c,j≤c→c<r0→z (d c)<z (d (nn-1-c)))) (fun s t _=>(intOf t).toNat-(intOf s).toNat)
  case atStart=>exact⟨s0,r0,⟨Nat.le_refl _,hsr.1.2,Nat.le_refl _⟩,rfl,rfl,HD⟩
  case round =>
   clear HD;obtain⟨i,j,⟨hi1,hi2,PL⟩,rfl,rfl,HD⟩:=hrel;by_cases hij:i<j
   ·have Di:(i:Int)<(j:Int):=ω
    obtain⟨s,hs⟩:=Mem.QD (i+j);obtain⟨q,hq⟩:=Mem.QD (s/2);obtain⟨pq,PJ⟩:=Mem.QD (pp-q);have w1:IntKind.i64.wrap ((i:Int)+(j:Int))=(s:Int):=by rw[IntKind.wrap_i64];omega
    have w2:IntKind.u64.wrap (s:Int)=(s:Int):=by rw[IntKind.wrap_u64];omega
    have w3:(s:Int)/2=(q:Int):=ω
    have w4:IntKind.u64.wrap (q:Int)=(q:Int):=by rw[IntKind.wrap_u64];omega
    have w5:IntKind.i64.wrap (q:Int)=(q:Int):=by rw[IntKind.wrap_i64];omega
    have hnn:nn=mid+m:=HM.out.1.2;have Hz:nn-1=pp:=Rb.out;have w6:IntKind.i64.wrap ((pp:Int)-(q:Int))=(pq:Int):=by rw[IntKind.wrap_i64];omega
    have Ob:q<n:=ω
    have GZ:pq<n:=by
     have h1:=HM.out.2.1;have h2:=HM.out.1.1;by_cases hm:m>mid
     ·rw[if_pos hm]at h1;have:=hnb hm;omega
     ·rw[if_neg hm]at h1;omega
    obtain⟨p1,f1⟩:=HD.out.1.2.cell (i:=pq) GZ;obtain⟨p2,f2⟩:=HD.out.1.2.cell (i:=q) Ob;have Pv:Hid (∀q',Calls Tryz.prog gf (#[ι γ (d pq:Int),ι γ (d q:Int)]++caps) (wr.drewN q') fun e W'=>e=ρ (ι γ ((z (d q):Int)-(z (d pq):Int)))∧∃q'',W'=(wr.drewN q').drewN q''):=fun q'=>HC.out.2 _ (HD.out.1.1.trans (QB.drewN wr q')) _ _ (HK.out pq GZ) (HK.out q Ob)
    obtain⟨c,hc⟩:∃c:Int,(z (d q):Int)-(z (d pq):Int)=c:=⟨_,rfl⟩;rw[hc]at Pv;have hz1:=HZ.out (d pq);have hz2:=HZ.out (d q);have t1:(0:Int)≤(q:Int):=ω
    have t2:(q:Int)<(n:Int):=ω
    have t3:(0:Int)≤(pq:Int):=ω
    have t4:(pq:Int)<(n:Int):=ω
    have HQ:Hid (i≤q∧q<j):=⟨ω,ω⟩;by_cases hlt:c<0
    ·have HN:Hid (∀q',(QB g g w (wr.drewN q')∧ZP (wr.drewN q') g n d r)∧(∀c,s0≤c→c<i→z (d (nn-1-c))≤z (d c))∧∀c,q≤c→c<r0→z (d c)<z (d (nn-1-c))):=fun q'=>⟨⟨HD.out.1.1.trans (QB.drewN wr q'),HD.out.1.2⟩,HD.out.2.1,Qtr (s:=0) ω ω HM.out.1.1 HM.out.1.2 HM.out.2.1 HM.out.2.2 HO.out.1 HO.out.2.1 ω ω (by rw[Rb.out,PJ];omega)⟩
     generalize d q=x at *;generalize d pq=y at *;clear HD hs hq PJ hz1 hz2 hc hij hnn;go_wp2
     go_quiet ((refine(Pv.out _).mono ?_;rintro e w9 ⟨he,m9,JC⟩;exact⟨he,_,by rw[JC,World.drewN_drewN]⟩))
     go_wp2
     go_roundw
     case rel=>exact c79
     case measure=>have:=HQ.out;simp[intOf];omega
    ·have hd:decide (c<0)=false:=decide_eq_false hlt;have HN:Hid (∀q',(QB g g w (wr.drewN q')∧ZP (wr.drewN q') g n d r)∧(∀c,s0≤c→c<q+1→z (d (nn-1-c))≤z (d c))∧∀c,j≤c→c<r0→z (d c)<z (d (nn-1-c))):=fun q'=>⟨⟨HD.out.1.1.trans (QB.drewN wr q'),HD.out.1.2⟩,Qwn (s:=0) ω ω HM.out.1.1 HM.out.1.2 HM.out.2.1 HM.out.2.2 HO.out.1 HO.out.2.1 ω ω (by rw[Rb.out,PJ];omega),HD.out.2.2⟩
     generalize d q=x at *;generalize d pq=y at *;clear HD hs hq PJ hz1 hz2 hc hij hnn;go_wp2
     go_quiet ((refine(Pv.out _).mono ?_;rintro e w9 ⟨he,m9,JC⟩;exact⟨he,_,by rw[JC,World.drewN_drewN]⟩))
     go_wp2
     go_roundw
     case rel=>exact c71
     case measure=>have:=HQ.out;simp[intOf];omega
   ·obtain rfl:j=i:=ω
    have Di:¬(j:Int)<(j:Int):=ω
    have hnn:nn=mid+m:=HM.out.1.2;obtain⟨e,he⟩:=Mem.QD (nn-j);have w1:IntKind.i64.wrap ((nn:Int)-(j:Int))=(e:Int):=by rw[IntKind.wrap_i64];omega
    have hcut:=Qy9 (s:=j) ω ω HM.out.1.1 HM.out.1.2 HM.out.2.1 HM.out.2.2 hi1 PL HO.out.1 HO.out.2.1 HO.out.2.2 HD.out.2.1 HD.out.2.2;rw[he]at hcut;have EC:=QA hcut;obtain⟨⟨q1,q2,q3,q4,_,_,_,_,_⟩,q5⟩:=hcut;have ud:=QA q5;have hjm:j≤mid∧mid≤e:=⟨ω,ω⟩;have OZ:Hid (QB g g w wr∧ZP wr g n d r):=HD.out.1;obtain⟨R,hR⟩:=Mem.QD (Qx d j m e);have HR:=QA hR;have uK:Hid (∀i,i<n→R i<K):=by have:=(pN d q2 q3).bound ω HK.out;rw[hR]at this;exact this
    clear HD HM Rb hnn he hi1 hi2 PL hsr hR q5;obtain⟨b1,hb1⟩:=Mem.QD ((decide (j<m)&&decide (m<e)));have Z':=QA hb1;clear hb1
    go_upto_region 39 with(fail)
    go_cut [185]from 178 to 185 (fun s W=>s=τ b1∧W=wr)
    case first =>
     have hb1:=Z'.out;by_cases c1:j<m
     ·have c1':(j:Int)<(m:Int):=ω
      by_cases c2:m<e
      ·have Lj:(m:Int)<(e:Int):=ω
       have hb2:b1=true:=by rw[←hb1];simp[c1,c2]
       go_wp2
       go_meet
       case rel=>exact c127
      ·have Lj:¬(m:Int)<(e:Int):=ω
       have hb2:b1=false:=by rw[←hb1];simp[c1,c2]
       go_wp2
       go_meet
       case rel=>exact c127
     ·have c1':¬(j:Int)<(m:Int):=ω
      have hb2:b1=false:=by rw[←hb1];simp[c1]
      go_wp2
      go_meet
      case rel=>exact c127
    case rest =>
     obtain⟨rfl,hw⟩:=hcut;have hw':=hw.symm;clear hw;subst hw'
     go_upto_if 185 with(fail)
     go_cut []from 186 to 191 (fun W=>Hid (QB g g w W∧ZP W g n R r))
     case first =>
      have hb1:=Z'.out;cases b1 with
      |true =>
       simp only[Bool.and_eq_true,decide_eq_true_eq]at hb1;have DW:=QA (Qkr OZ.out.2 C j m e (.func (.func gf) #[] caps) hb1.1 hb1.2 ω hn);rw[HR.out]at DW;clear hb1;go_wp2_with fail;refine DW.out.mono ?_;rintro e1 w9 ⟨rfl,ht,hd⟩;have Rp:Hid (QB g g w w9∧ZP w9 g n R r):=⟨OZ.out.1.trans ht,hd⟩;clear ht hd;go_wp2
       go_meet
       case rel=>exact Rp
      |false =>
       have Rp:Hid (QB g g w wr∧ZP wr g n R r):=by
        refine⟨OZ.out.1,?_⟩;rw[←HR.out,il d]
        ·exact OZ.out.2
        ·simp only[Bool.and_eq_false_iff,decide_eq_false_iff_not]at hb1;omega
       clear hb1;go_wp2
       go_meet
       case rel=>exact Rp
     case rest =>
      obtain⟨wx,hwx⟩:∃wx,wx=wc:=⟨_,rfl⟩;subst hwx;have Bh:=hcut;clear hcut OZ;obtain⟨b2,hb2⟩:=Mem.QD ((decide (a<j)&&decide (j<mid)));have XC:=QA hb2;clear hb2 Z'
      go_upto_region 41 with(fail)
      go_cut [199]from 192 to 199 (fun s W=>s=τ b2∧W=wx)
      case first =>
       have hb1:=XC.out;by_cases c1:a<j
       ·have c1':(a:Int)<(j:Int):=ω
        by_cases c2:j<mid
        ·have Lj:(j:Int)<(mid:Int):=ω
         have hb2:b2=true:=by rw[←hb1];simp[c1,c2]
         go_wp2
         go_meet
         case rel=>exact c127
        ·have Lj:¬(j:Int)<(mid:Int):=ω
         have hb2:b2=false:=by rw[←hb1];simp[c1,c2]
         go_wp2
         go_meet
         case rel=>exact c127
       ·have c1':¬(a:Int)<(j:Int):=ω
        have hb2:b2=false:=by rw[←hb1];simp[c1]
        go_wp2
        go_meet
        case rel=>exact c127
      case rest =>
       obtain⟨rfl,hw⟩:=hcut;have hw':=hw.symm;clear hw;subst hw'
       go_upto_if 199 with(fail)
       go_cut []from 200 to 205 (fun W=>∃f,Hid ((QB g g w W∧ZP W g n f r)∧Pm a mid R f∧SO z f a mid))
       case first =>
        have hb1:=XC.out;cases b2 with
        |true =>
         simp only[Bool.and_eq_true,decide_eq_true_eq]at hb1;have HS:=QA (Sm.out wx R a j mid Bh.out.2 (HC.out.turn Bh.out.1) uK.out hb1.1 hb1.2 ω (by have:=HLEN.out;omega) (by rw[←HR.out];exact EC.out.1.jt) (by rw[←HR.out];have:=EC.out.1.Ah;rw[ud.out]at this;exact this) (by rw[←HR.out];have:=EC.out.1.x1;rw[ud.out]at this;exact this));clear hb1;go_wp2_with fail;refine HS.out.mono ?_;rintro e1 w9 ⟨rfl,ht,f,hd,hp,ho⟩;have Rp:Hid ((QB g g w w9∧ZP w9 g n f r)∧Pm a mid R f∧SO z f a mid):=⟨⟨Bh.out.1.trans ht,hd⟩,hp,ho⟩;clear ht hd hp ho;go_wp2
         go_meet
         case rel=>exact⟨f,Rp⟩
        |false =>
         have Rp:Hid ((QB g g w wx∧ZP wx g n R r)∧Pm a mid R R∧SO z R a mid):=by
          refine⟨Bh.out,Pm.refl _ _ _,?_⟩;simp only[Bool.and_eq_false_iff,decide_eq_false_iff_not]at hb1;rw[←HR.out];have s1:=EC.out.1.jt;have s2:=EC.out.1.Ah;rw[ud.out]at s2;by_cases e1:j=a
          ·rw[e1]at s2⊢;exact s2
          ·rw[show j=mid by omega]at s1⊢;exact s1
         clear hb1;go_wp2
         go_meet
         case rel=>exact⟨R,Rp⟩
       case rest =>
        obtain⟨wy,hwy⟩:∃wy,wy=wc:=⟨_,rfl⟩;subst hwy;obtain⟨f,Mb⟩:=hcut;clear Bh XC
        go_upto_region 43 with(fail)
        have HF:Hid (SO z f mid e∧SO z f e b∧XX z f mid e b∧∀i,i<n→f i<K):=by have h3:=EC.out.1.so3;have h4:=EC.out.1.so4;have h5:=EC.out.1.x2;rw[ud.out,HR.out]at h3 h5;rw[HR.out]at h4;have hp:=Mb.out.2.1;refine⟨h3.keep hp (.inr (Nat.le_refl _)),h4.keep hp (.inr ω),fun i' j' g1 g2 g3 g4=>?_,hp.bound ω uK.out⟩;rw[hp.out (.inr g1),hp.out (.inr ω)];exact h5 i' j' g1 g2 g3 g4
        have XB:Hid (∀g',Pm mid b f g'→SO z g' mid b→SO z g' a b∧Pm a b d g'):=fun g' hp ho=>by
         have:=EC.out.1.done (f:=f) (g:=g');rw[ud.out,HR.out]at this;exact this Mb.out.2.1 Mb.out.2.2 hp ho
        by_cases c1:mid<e
        ·have c1':(mid:Int)<(e:Int):=ω
         by_cases c2:e<b
         ·have Lj:(e:Int)<(b:Int):=ω
          have HS:=QA (Sm.out wy f mid e b Mb.out.1.2 (HC.out.turn Mb.out.1.1) HF.out.2.2.2 c1 c2 hb (by have:=HLEN.out;omega) HF.out.1 HF.out.2.1 HF.out.2.2.1);go_wp2_with fail;refine HS.out.mono ?_;rintro e1 w9 ⟨rfl,ht,f',hd,hp,ho⟩;have Rp:Hid ((QB g g w w9∧ZP w9 g n f' r)∧Pm a b d f'∧SO z f' a b):=⟨⟨Mb.out.1.1.trans ht,hd⟩,(XB.out f' hp ho).2,(XB.out f' hp ho).1⟩;clear ht hd hp ho;go_wp2
          go_end0
          exact⟨rfl,Rp.out.1.1,f',Rp.out.1.2,Rp.out.2.1,Rp.out.2.2⟩
         ·have Lj:¬(e:Int)<(b:Int):=ω
          have Rp:Hid (Pm a b d f∧SO z f a b):=by have:=XB.out f (Pm.refl _ _ _) (by have:=HF.out.1;rw[show e=b by omega]at this;exact this);exact⟨this.2,this.1⟩
          go_wp2
          go_end0
          exact⟨rfl,Mb.out.1.1,f,Mb.out.1.2,Rp.out.1,Rp.out.2⟩
        ·have c1':¬(mid:Int)<(e:Int):=ω
         have Rp:Hid (Pm a b d f∧SO z f a b):=by have:=XB.out f (Pm.refl _ _ _) (by have:=HF.out.2.1;rw[show e=mid by omega]at this;exact this);exact⟨this.2,this.1⟩
         go_wp2
         go_end0
         exact⟨rfl,Mb.out.1.1,f,Mb.out.1.2,Rp.out.1,Rp.out.2⟩
theorem Qcu{g n gf K:Nat}{caps:Array Value}{z:Nat→Nat}{r:List Value}(C:Nat)(hz:∀x,z x≤1000000)(hn:n≤1000000):∀len,Qt6 g n gf K C caps z r len
 |0=>fun w d a m b _ _ _ h1 h2 _ h4 _ _ _=>ω
 |len+1=>fun w d a m b h hc hK vg hmb hb hlen lo hi hx=>by
  by_cases h1:a+1=m
  ·exact Qkh h hc hK hz C a m b h1 hmb hb hn hi hx
  ·by_cases h2:m+1=b
   ·exact Qhu h hc hK hz C a m b h2 ω hb hn lo hx
   ·exact Qki C a m b hz hn (Qcu C hz hn len) h hc hK ω ω hb hlen lo hi hx
end Match
namespace Mem
def pn(v:Value)(i:Nat):Value:=match v with
 | ς (some ⟨g,_,_⟩) _ _=>π (some ⟨g,i,none⟩)
 |_=>undef
structure GL(w0:World)(B:Nat)(C:Nat→Option Value)(D:Nat→Option (Value→Value))(iM iB iA iE iS:Nat)(R0:Bool→Value→List QC)(cs:Value→List Value)(RR:Bool→Bool→Value→Value→List QC)(L:Nat→Bool)(x:Nat→Value)(W:World):Prop where
 QF:Below B w0 W
 kc:∀i v,C i=some v→L i=true→x i=v
 kd:∀i f,D i=some f→L i=true→x i=f (x iA)∧L iA=true
 f0:L iA=false→QH W B (R0 (L iM) (x iM))
 fb:L iB=true→L iA=false→∃g c,x iB=ς (some ⟨g,0,none⟩) 1 c∧∀j u,(cs (x iM))[j]?=some u→W.cell? ⟨g,j,none⟩=some u
 f1:L iA=true→QH W B (RR (L iE) (L iS) (x iM) (x iA))
 dS:L iS=true→L iA=true
 dE:L iE=true→L iA=true
section
variable {w0 W W':World}{B:Nat}{C:Nat→Option Value}{D:Nat→Option (Value→Value)}{iM iB iA iE iS:Nat}{R:List QC}{R0:Bool→Value→List QC}{cs:Value→List Value}{RR:Bool→Bool→Value→Value→List QC}{L:Nat→Bool}{x:Nat→Value}{v:Value}
theorem GL.start(h:QH W B R)(hR:∀v,R0 false v=R):GL W B C D iM iB iA iE iS R0 cs RR (fun _=>false) x W.drew :=
 ⟨⟨rfl,rfl,rfl,Nat.le_refl _,fun _ _=>rfl⟩,fun _ _ _ h=>(by cases h),fun _ _ _ h=>(by cases h),fun _=>by rw[hR];exact h.YH ⟨rfl,rfl,rfl,Nat.le_refl _,fun _ _ _=>rfl⟩,fun h=>(by cases h),fun h=>(by cases h),fun h=>(by cases h),fun h=>(by cases h)⟩
theorem GL.Cc(h:GL w0 B C D iM iB iA iE iS R0 cs RR L x W){i:Nat}(hi:C i=none∨C i=some v):∀j u,C j=some u→Zh L i j=true→Qq x i v j=u:=fun j u hj hl=>by
 by_cases e:j=i
 ·subst e;rw[Ks];rcases hi with hi|hi
  ·rw[hi]at hj;cases hj
  ·exact Option.some.inj (hi.symm.trans hj)
 ·rw[Zf e];rw[Qr e]at hl;exact h.kc j u hj hl
theorem GL.jX(h:GL w0 B C D iM iB iA iE iS R0 cs RR L x W){i:Nat}(hA:iA≠i)(hi:D i=none∨∃f,D i=some f∧v=f (x iA)∧L iA=true):∀j f,D j=some f→Zh L i j=true→Qq x i v j=f (Qq x i v iA)∧Zh L i iA=true:=fun j f hj hl=>by
 rw[Zf hA,Qr hA];by_cases e:j=i
 ·subst e;rw[Ks];rcases hi with hi|⟨f',hf',e1,e2⟩
  ·rw[hi]at hj;cases hj
  ·rw[hj]at hf';injection hf' with hf';subst hf';exact⟨e1,e2⟩
 ·rw[Zf e];rw[Qr e]at hl;exact h.kd j f hj hl
theorem GL.quiet(h:GL w0 B C D iM iB iA iE iS R0 cs RR L x W)(hW:B≤W.heap.size)(hb:Below W.heap.size W W'){i:Nat}(hi:C i=none∨C i=some v)(hd:D i=none∨∃f,D i=some f∧v=f (x iA)∧L iA=true)(h0:iM≠i)(h1:iB≠i)(h2:iA≠i)(h3:iE≠i)(h4:iS≠i) :
 GL w0 B C D iM iB iA iE iS R0 cs RR (Zh L i) (Qq x i v) W':=by
 refine⟨h.QF.trans (hb.mono hW),h.Cc hi,h.jX h2 hd,?_,?_,?_,?_,?_⟩;all_goals simp only[Qr h0,Qr h1,Qr h2,Qr h3,Qr h4,Zf h0,Zf h1,Zf h2]
 ·exact fun a=>(h.f0 a).later hb
 ·exact c68
 ·exact fun a=>(h.f1 a).later hb
 ·exact h.dS
 ·exact h.dE
theorem GL.make(h:GL w0 B C D iM iB iA iE iS R0 cs RR L x W)(hC:C iM=none)(hD:D iM=none)(h1:iB≠iM)(h2:iA≠iM)(h3:iE≠iM)(h4:iS≠iM)(hB:L iB=false)(hA:L iA=false)(hb:Below B W W')(hf:QH W' B (R0 true v)) :
 GL w0 B C D iM iB iA iE iS R0 cs RR (Zh L iM) (Qq x iM v) W':=by
 refine⟨h.QF.trans hb,h.Cc (.inl hC),h.jX h2 (.inl hD),?_,?_,?_,?_,?_⟩;all_goals simp only[Qr h1,Qr h2,Qr h3,Qr h4,Zf h1,Zf h2,V8,Ks]
 ·exact fun _=>hf
 ·intro a;rw[hB]at a;cases a
 ·intro a;rw[hA]at a;cases a
 ·exact h.dS
 ·exact h.dE
theorem GL.build(h:GL w0 B C D iM iB iA iE iS R0 cs RR L x W)(hW:B≤W.heap.size)(hb:Below W.heap.size W W')(hC:C iB=none)(hD:D iB=none)(hM:iM≠iB)(hA:iA≠iB)(hE:iE≠iB)(hS:iS≠iB){g c:Nat}(hv:v=ς (some ⟨g,0,none⟩) 1 c)(hc:∀j u,(cs (x iM))[j]?=some u→W'.cell? ⟨g,j,none⟩=some u) :
 GL w0 B C D iM iB iA iE iS R0 cs RR (Zh L iB) (Qq x iB v) W':=by
 refine⟨h.QF.trans (hb.mono hW),h.Cc (.inl hC),h.jX hA (.inl hD),?_,?_,?_,?_,?_⟩;all_goals simp only[Qr hM,Qr hA,Qr hE,Qr hS,Zf hA,Zf hM,Ks]
 ·exact fun a=>(h.f0 a).later hb
 ·exact fun _ _=>⟨g,c,hv,hc⟩
 ·exact fun a=>(h.f1 a).later hb
 ·exact h.dS
 ·exact h.dE
theorem GL.app(h:GL w0 B C D iM iB iA iE iS R0 cs RR L x W)(hC:C iA=none)(hD:D iA=none)(hM:iM≠iA)(hE:iE≠iA)(hS:iS≠iA)(hL:L iA=false)(hb:Below B W W')(hf:QH W' B (RR false false (x iM) v)):GL w0 B C D iM iB iA iE iS R0 cs RR (Zh L iA) (Qq x iA v) W':=by
 have s0:L iS=false:=by cases e:L iS with|false=>rfl|true=>rw[h.dS e]at hL;cases hL
 have e0:L iE=false:=by cases e:L iE with|false=>rfl|true=>rw[h.dE e]at hL;cases hL
 refine⟨h.QF.trans hb,h.Cc (.inl hC),fun j f hj hl=>?_,fun a=>(by rw[V8]at a;cases a),fun _ a=>(by rw[V8]at a;cases a),fun _=>?_,fun _=>V8,fun _=>V8⟩
 ·by_cases e:j=iA
  ·subst e;rw[hD]at hj;cases hj
  ·rw[Qr e]at hl;have:=(h.kd j f hj hl).2;rw[hL]at this;cases this
 ·rw[Qr hE,Qr hS,Zf hM,Ks,s0,e0];exact hf
theorem GL.put(h:GL w0 B C D iM iB iA iE iS R0 cs RR L x W)(hC:C iE=none)(hD:D iE=none)(hM:iM≠iE)(hA:iA≠iE)(hS:iS≠iE)(hL:L iA=true)(hb:Below B W W')(hf:QH W' B (RR true (L iS) (x iM) (x iA))):GL w0 B C D iM iB iA iE iS R0 cs RR (Zh L iE) (Qq x iE v) W':=by
 refine⟨h.QF.trans hb,h.Cc (.inl hC),h.jX hA (.inl hD),fun a=>?_,fun _ a=>?_,fun _=>?_,fun _=>by rw[Qr hA];exact hL,fun _=>by rw[Qr hA];exact hL⟩
 ·rw[Qr hA,hL]at a;cases a
 ·rw[Qr hA,hL]at a;cases a
 ·rw[V8,Qr hS,Zf hM,Zf hA];exact hf
theorem GL.store(h:GL w0 B C D iM iB iA iE iS R0 cs RR L x W)(hC:C iS=none)(hD:D iS=none)(hM:iM≠iS)(hA:iA≠iS)(hE:iE≠iS)(hL:L iA=true)(hb:Below B W W')(hf:QH W' B (RR (L iE) true (x iM) (x iA))):GL w0 B C D iM iB iA iE iS R0 cs RR (Zh L iS) (Qq x iS v) W':=by
 refine⟨h.QF.trans hb,h.Cc (.inl hC),h.jX hA (.inl hD),fun a=>?_,fun _ a=>?_,fun _=>?_,fun _=>by rw[Qr hA];exact hL,fun _=>by rw[Qr hA];exact hL⟩
 ·rw[Qr hA,hL]at a;cases a
 ·rw[Qr hA,hL]at a;cases a
 ·rw[V8,Qr hE,Zf hM,Zf hA];exact hf
end
