import Derived.Test.YtmepekognmlblaaGreatDoorS36
import Derived.Maps.OwnSet
import Derived.Laws.IdiomStrings
set_option maxHeartbeats 32000000
set_option maxRecDepth 100000
set_option linter.unusedVariables false
open Go.ChangeShapes Go.WideShapes Go.ChangeAt Go.RowKit Go.Proofs.Tryz
open Go.Lib renaming hid→QA
open _root_.Nat renaming le_refl→QI,zero_le→ZR,le_trans→QW
open Go.Value renaming string→σ,int→ι,slice→ς,bool→τ,agg→ξ
open Go.IntKind renaming i64→γ
open Go.Obj renaming cells→θ
open Go.Ending renaming returned→ρ
namespace Go.Proofs.YtmepekognmlblaaGreatDoor
namespace Match
open Mem Tree Shape
section
variable {z d:Nat→Nat}{a b m h:Nat}
theorem Qxn{x:Nat}(lo:SO z d a b)(hb:h<b)(hh:x<z (d h)):∀k,a≤k→k<h+1→x<z (d k):=by
 intro k h1 h2;by_cases e:k=h
 ·rw[e];exact hh
 ·have:=(lo k h h1 ω hb).le;omega
theorem Qzj{x:Nat}(lo:SO z d a b)(hb:h<b)(hh:x≤z (d h)):∀k,a≤k→k<h+1→x≤z (d k):=by
 intro k h1 h2;by_cases e:k=h
 ·rw[e];exact hh
 ·have:=(lo k h h1 ω hb).le;omega
theorem pW{x:Nat}(lo:SO z d a b)(ha:a≤h)(hh:z (d h)≤x):∀k,h≤k→k<b→z (d k)≤x:=by
 intro k h1 h2;by_cases e:k=h
 ·rw[e];exact hh
 ·have:=(lo h k ha ω h2).le;omega
theorem Qwk{x:Nat}(lo:SO z d a b)(ha:a≤h)(hh:z (d h)<x):∀k,h≤k→k<b→z (d k)<x:=by
 intro k h1 h2;by_cases e:k=h
 ·rw[e];exact hh
 ·have:=(lo h k ha ω h2).le;omega
end
theorem Qkh{w:World}{g n gf K:Nat}{caps:Array Value}{z d:Nat→Nat}{r:List Value}(h:ZP w g n d r)(hc:Uf w g gf caps z K)(hK:∀i,i<n→d i<K)(hz:∀x,z x≤1000000)(C a m b:Nat)(hm:a+1=m)(hmb:m<b)(hb:b≤n)(hn:n≤1000000)(kF:SO z d m b)(hx:XX z d a m b) :
 Calls Tryz.prog 129 #[ς (some ⟨g,0,none⟩) n C,ι γ (a:Int),ι γ (m:Int),ι γ (b:Int),.func (.func gf) #[] caps] w (Xn w g n r z d a b):=by
 have HC:=Lib.hid hc;have HK:=Lib.hid hK;have HZ:=Lib.hid hz;have qJ:=Lib.hid kF;have HX:=Lib.hid hx;have eg:=hc.1;unfold Vp at eg;have HM:=Lib.hid hm;have w1:IntKind.i64.wrap ((m:Int)-(a:Int))=1:=by rw[IntKind.wrap_i64];omega
 have HD:Hid ((QB g g w w∧ZP w g n d r)∧(∀k,m≤k→k<m→z (d a)<z (d k))∧∀k,b≤k→k<b→z (d k)≤z (d a)):=⟨⟨QB.refl g g w,h⟩,fun k h1 h2=>ω,fun k h1 h2=>ω⟩;have vg:a<m:=ω
 clear h hc hK hz kF hx hm;go_enter Tryz.func129,Tryz.ntmps129;go_wp2;clear w1
 go_loopw [10,11] (fun JQ GA wr=>∃i j:Nat,(m≤i∧i≤j∧j≤b)∧JQ=ι γ (i:Int)∧GA=ι γ (j:Int)∧Hid ((QB g g w wr∧ZP wr g n d r)∧(∀k,m≤k→k<i→z (d a)<z (d k))∧∀k,j≤k→k<b→z (d k)≤z (d a))) (fun s t _=>(intOf t).toNat-(intOf s).toNat)
 case atStart=>exact⟨m,b,⟨Nat.le_refl _,ω,Nat.le_refl _⟩,rfl,rfl,HD⟩
 case round =>
  clear HD;obtain⟨i,j,⟨hi1,hi2,PL⟩,rfl,rfl,HD⟩:=hrel;by_cases hij:i<j
  ·have Di:(i:Int)<(j:Int):=ω
   obtain⟨s,hs⟩:=Mem.QD (i+j);obtain⟨q,hq⟩:=Mem.QD (s/2);have w1:IntKind.i64.wrap ((i:Int)+(j:Int))=(s:Int):=by rw[IntKind.wrap_i64];omega
   have w2:IntKind.u64.wrap (s:Int)=(s:Int):=by rw[IntKind.wrap_u64];omega
   have w3:(s:Int)/2=(q:Int):=ω
   have w4:IntKind.u64.wrap (q:Int)=(q:Int):=by rw[IntKind.wrap_u64];omega
   have w5:IntKind.i64.wrap (q:Int)=(q:Int):=by rw[IntKind.wrap_i64];omega
   obtain⟨p1,f1⟩:=HD.out.1.2.cell (i:=q) ω;obtain⟨p2,f2⟩:=HD.out.1.2.cell (i:=a) ω;have Pv:Hid (∀q',Calls Tryz.prog gf (#[ι γ (d q:Int),ι γ (d a:Int)]++caps) (wr.drewN q') fun e W'=>e=ρ (ι γ ((z (d a):Int)-(z (d q):Int)))∧∃q'',W'=(wr.drewN q').drewN q''):=fun q'=>HC.out.2 _ (HD.out.1.1.trans (QB.drewN wr q')) _ _ (HK.out q ω) (HK.out a ω)
   obtain⟨c,hc⟩:∃c:Int,(z (d a):Int)-(z (d q):Int)=c:=⟨_,rfl⟩;rw[hc]at Pv;have hz1:=HZ.out (d a);have hz2:=HZ.out (d q);have t1:(0:Int)≤(q:Int):=ω
   have t2:(q:Int)<(n:Int):=ω
   have t3:(0:Int)≤(a:Int):=ω
   have t4:(a:Int)<(n:Int):=ω
   have HQ:Hid (i≤q∧q<j):=⟨ω,ω⟩;by_cases hlt:c<0
   ·have HN:Hid (∀q',(QB g g w (wr.drewN q')∧ZP (wr.drewN q') g n d r)∧(∀k,m≤k→k<q+1→z (d a)<z (d k))∧∀k,j≤k→k<b→z (d k)≤z (d a)):=fun q'=>⟨⟨HD.out.1.1.trans (QB.drewN wr q'),HD.out.1.2⟩,Qxn qJ.out ω ω,HD.out.2.2⟩
    generalize d q=x at *;generalize d a=y at *;clear HD hs hq hz1 hz2 hc hij;go_wp2
    go_quiet ((refine(Pv.out _).mono ?_;rintro e w9 ⟨he,m9,JC⟩;exact⟨he,_,by rw[JC,World.drewN_drewN]⟩))
    go_wp2
    go_roundw
    case rel=>exact c71
    case measure=>have:=HQ.out;simp[intOf];omega
   ·have HN:Hid (∀q',(QB g g w (wr.drewN q')∧ZP (wr.drewN q') g n d r)∧(∀k,m≤k→k<i→z (d a)<z (d k))∧∀k,q≤k→k<b→z (d k)≤z (d a)):=fun q'=>⟨⟨HD.out.1.1.trans (QB.drewN wr q'),HD.out.1.2⟩,HD.out.2.1,pW qJ.out ω ω⟩
    generalize d q=x at *;generalize d a=y at *;clear HD hs hq hz1 hz2 hc hij;go_wp2
    go_quiet ((refine(Pv.out _).mono ?_;rintro e w9 ⟨he,m9,JC⟩;exact⟨he,_,by rw[JC,World.drewN_drewN]⟩))
    go_wp2
    go_roundw
    case rel=>exact c79
    case measure=>have:=HQ.out;simp[intOf];omega
  ·obtain rfl:j=i:=ω
   have Di:¬(j:Int)<(j:Int):=ω
   obtain⟨i1,cg⟩:∃i1,j-1=i1:=⟨_,rfl⟩;have w1:IntKind.i64.wrap ((j:Int)-1)=(i1:Int):=by rw[IntKind.wrap_i64];omega
   have HS:Hid (SO z (Qx d a m j) a b∧Pm a b d (Qx d a m j)):=by have h1:=HM.out;subst h1;exact⟨Qot qJ.out HX.out hi1 PL HD.out.2.1 HD.out.2.2,(pN d ω hi1).mono (Nat.le_refl _) PL⟩
   have Bh:Hid (QB g g w wr∧ZP wr g n (Qx d a m (a+1)) r):=⟨HD.out.1.1,by rw[HM.out,il d (.inr rfl)];exact HD.out.1.2⟩;have hj:i1+1=j:=ω
   have HJ:=Lib.hid hj;have ha1:a≤i1:=ω
   have hjn:i1+1≤n:=ω
   clear HD cg;go_wp2
   go_loopw [13] (fun EU wr=>∃k:Nat,(a≤k∧k≤i1)∧EU=ι γ (k:Int)∧Hid (QB g g w wr∧ZP wr g n (Qx d a m (k+1)) r)) (fun s _=>i1-(intOf s).toNat)
   case atStart=>exact⟨a,⟨Nat.le_refl _,ha1⟩,rfl,Bh⟩
   case round =>
    clear Bh;obtain⟨k,⟨hk1,hk2⟩,rfl,HD⟩:=hrel;by_cases zU:k<i1
    ·have Ww:(k:Int)<(i1:Int):=ω
     obtain⟨k',hk'⟩:∃k',k+1=k':=⟨_,rfl⟩;obtain⟨p1,f1⟩:=HD.out.2.cell (i:=k) ω;obtain⟨p2,f2⟩:=HD.out.2.cell (i:=k') ω;have HN:Hid (∀q2,QB g g w (((wr.setCell ⟨g,k,none⟩ (ι γ (Qx d a m (k+1) k':Int))).setCell ⟨g,k',none⟩ (ι γ (Qx d a m (k+1) k:Int))).drewN q2)∧ZP (((wr.setCell ⟨g,k,none⟩ (ι γ (Qx d a m (k+1) k':Int))).setCell ⟨g,k',none⟩ (ι γ (Qx d a m (k+1) k:Int))).drewN q2) g n (Qx d a m (k'+1)) r):=by intro q2;refine⟨(HD.out.1.trans (Um _ _ _ _ _ _)).trans (QB.drewN _ q2),?_⟩;have h1:=HM.out;subst h1;rw[←hk',show k+1+1=k+2 from rfl,Qus d hk1];exact HD.out.2.swap (W:=wr) ω ω
     have w2:IntKind.i64.wrap ((k:Int)+1)=(k':Int):=by rw[IntKind.wrap_i64];omega
     have t1:(0:Int)≤(k:Int):=ω
     have t2:(k:Int)<(n:Int):=ω
     have t3:(0:Int)≤(k':Int):=ω
     have t4:(k':Int)<(n:Int):=ω
     have KA:Hid ((a≤k'∧k'≤i1)∧k<k'):=⟨⟨ω,ω⟩,ω⟩;generalize Qx d a m (k+1) k=x at *;generalize Qx d a m (k+1) k'=y at *;have n1:k≠k':=ω
     have n2:k'≠k:=ω
     clear HD hk';go_wp2
     go_region
     go_wp2
     go_roundw
     case rel=>exact⟨k',KA.out.1,rfl,HN.out _⟩
     case measure=>have:=KA.out;simp[intOf];omega
    ·obtain rfl:k=i1:=ω
     have Ww:¬(k:Int)<(k:Int):=ω
     go_wp2
     go_end0
     exact⟨rfl,HD.out.1,Qx d a m j,by have:=HD.out.2;rw[HJ.out]at this;exact this,HS.out.2,HS.out.1⟩
theorem Qhu{w:World}{g n gf K:Nat}{caps:Array Value}{z d:Nat→Nat}{r:List Value}(h:ZP w g n d r)(hc:Uf w g gf caps z K)(hK:∀i,i<n→d i<K)(hz:∀x,z x≤1000000)(C a m b:Nat)(hm:m+1=b)(vg:a+1<m)(hb:b≤n)(hn:n≤1000000)(kF:SO z d a m)(hx:XX z d a m b) :
 Calls Tryz.prog 129 #[ς (some ⟨g,0,none⟩) n C,ι γ (a:Int),ι γ (m:Int),ι γ (b:Int),.func (.func gf) #[] caps] w (Xn w g n r z d a b):=by
 have HC:=Lib.hid hc;have HK:=Lib.hid hK;have HZ:=Lib.hid hz;have qJ:=Lib.hid kF;have HX:=Lib.hid hx;have eg:=hc.1;unfold Vp at eg;have HM:=Lib.hid hm;obtain⟨ma,Bo⟩:∃ma:Int,(m:Int)-(a:Int)=ma:=⟨_,rfl⟩;have w1:IntKind.i64.wrap ((m:Int)-(a:Int))=ma:=by rw[IntKind.wrap_i64];omega
 have w0:((ma:Int)==1)=false:=by rw[beq_eq_false_iff_ne];omega
 have w2:IntKind.i64.wrap ((b:Int)-(m:Int))=1:=by rw[IntKind.wrap_i64];omega
 have HD:Hid ((QB g g w w∧ZP w g n d r)∧(∀k,a≤k→k<a→z (d m)≤z (d k))∧∀k,m≤k→k<m→z (d k)<z (d m)):=⟨⟨QB.refl g g w,h⟩,fun k h1 h2=>ω,fun k h1 h2=>ω⟩;have Q3d:a<m:=ω
 have Q2n:m<b:=ω
 clear h hc hK hz kF hx hm Bo;go_enter Tryz.func129,Tryz.ntmps129;go_wp2;clear w0 w1 w2
 go_loopw [14,15] (fun UU PA wr=>∃i j:Nat,(a≤i∧i≤j∧j≤m)∧UU=ι γ (i:Int)∧PA=ι γ (j:Int)∧Hid ((QB g g w wr∧ZP wr g n d r)∧(∀k,a≤k→k<i→z (d m)≤z (d k))∧∀k,j≤k→k<m→z (d k)<z (d m))) (fun s t _=>(intOf t).toNat-(intOf s).toNat)
 case atStart=>exact⟨a,m,⟨Nat.le_refl _,ω,Nat.le_refl _⟩,rfl,rfl,HD⟩
 case round =>
  clear HD;obtain⟨i,j,⟨hi1,hi2,PL⟩,rfl,rfl,HD⟩:=hrel;by_cases hij:i<j
  ·have Di:(i:Int)<(j:Int):=ω
   obtain⟨s,hs⟩:=Mem.QD (i+j);obtain⟨q,hq⟩:=Mem.QD (s/2);have w1:IntKind.i64.wrap ((i:Int)+(j:Int))=(s:Int):=by rw[IntKind.wrap_i64];omega
   have w2:IntKind.u64.wrap (s:Int)=(s:Int):=by rw[IntKind.wrap_u64];omega
   have w3:(s:Int)/2=(q:Int):=ω
   have w4:IntKind.u64.wrap (q:Int)=(q:Int):=by rw[IntKind.wrap_u64];omega
   have w5:IntKind.i64.wrap (q:Int)=(q:Int):=by rw[IntKind.wrap_i64];omega
   obtain⟨p1,f1⟩:=HD.out.1.2.cell (i:=q) ω;obtain⟨p2,f2⟩:=HD.out.1.2.cell (i:=m) ω;have Pv:Hid (∀q',Calls Tryz.prog gf (#[ι γ (d m:Int),ι γ (d q:Int)]++caps) (wr.drewN q') fun e W'=>e=ρ (ι γ ((z (d q):Int)-(z (d m):Int)))∧∃q'',W'=(wr.drewN q').drewN q''):=fun q'=>HC.out.2 _ (HD.out.1.1.trans (QB.drewN wr q')) _ _ (HK.out m ω) (HK.out q ω)
   obtain⟨c,hc⟩:∃c:Int,(z (d q):Int)-(z (d m):Int)=c:=⟨_,rfl⟩;rw[hc]at Pv;have hz1:=HZ.out (d m);have hz2:=HZ.out (d q);have t1:(0:Int)≤(q:Int):=ω
   have t2:(q:Int)<(n:Int):=ω
   have t3:(0:Int)≤(m:Int):=ω
   have t4:(m:Int)<(n:Int):=ω
   have HQ:Hid (i≤q∧q<j):=⟨ω,ω⟩;by_cases hlt:c<0
   ·have HN:Hid (∀q',(QB g g w (wr.drewN q')∧ZP (wr.drewN q') g n d r)∧(∀k,a≤k→k<i→z (d m)≤z (d k))∧∀k,q≤k→k<m→z (d k)<z (d m)):=fun q'=>⟨⟨HD.out.1.1.trans (QB.drewN wr q'),HD.out.1.2⟩,HD.out.2.1,Qwk qJ.out ω ω⟩
    generalize d q=x at *;generalize d m=y at *;clear HD hs hq hz1 hz2 hc hij;go_wp2
    go_quiet ((refine(Pv.out _).mono ?_;rintro e w9 ⟨he,m9,JC⟩;exact⟨he,_,by rw[JC,World.drewN_drewN]⟩))
    go_wp2
    go_roundw
    case rel=>exact c79
    case measure=>have:=HQ.out;simp[intOf];omega
   ·have hd:decide (c<0)=false:=decide_eq_false hlt;have HN:Hid (∀q',(QB g g w (wr.drewN q')∧ZP (wr.drewN q') g n d r)∧(∀k,a≤k→k<q+1→z (d m)≤z (d k))∧∀k,j≤k→k<m→z (d k)<z (d m)):=fun q'=>⟨⟨HD.out.1.1.trans (QB.drewN wr q'),HD.out.1.2⟩,Qzj qJ.out ω ω,HD.out.2.2⟩
    generalize d q=x at *;generalize d m=y at *;clear HD hs hq hz1 hz2 hc hij;go_wp2
    go_quiet ((refine(Pv.out _).mono ?_;rintro e w9 ⟨he,m9,JC⟩;exact⟨he,_,by rw[JC,World.drewN_drewN]⟩))
    go_wp2
    go_roundw
    case rel=>exact c71
    case measure=>have:=HQ.out;simp[intOf];omega
  ·obtain rfl:j=i:=ω
   have Di:¬(j:Int)<(j:Int):=ω
   have HS:Hid (SO z (Qx d j m b) a b∧Pm a b d (Qx d j m b)):=by have h1:=HM.out;subst h1;exact⟨Qsa qJ.out HX.out hi1 PL HD.out.2.1 HD.out.2.2,(pN d PL ω).mono hi1 (Nat.le_refl _)⟩
   have Bh:Hid (QB g g w wr∧ZP wr g n (Qx d m m b) r):=⟨HD.out.1.1,by rw[il d (.inl rfl)];exact HD.out.1.2⟩;clear HD;go_wp2
   go_loopw [17] (fun SK wr=>∃k:Nat,(j≤k∧k≤m)∧SK=ι γ (k:Int)∧Hid (QB g g w wr∧ZP wr g n (Qx d k m b) r)) (fun s _=>(intOf s).toNat)
   case atStart=>exact⟨m,⟨PL,Nat.le_refl _⟩,rfl,Bh⟩
   case round =>
    clear Bh;obtain⟨k,⟨hk1,hk2⟩,rfl,HD⟩:=hrel;by_cases zU:j<k
    ·have Ww:(j:Int)<(k:Int):=ω
     obtain⟨k',hk'⟩:∃k',k'+1=k:=⟨k-1,ω⟩;obtain⟨p1,f1⟩:=HD.out.2.cell (i:=k) ω;obtain⟨p2,f2⟩:=HD.out.2.cell (i:=k') ω;have HN:Hid (∀q2,QB g g w (((wr.setCell ⟨g,k,none⟩ (ι γ (Qx d k m b k':Int))).setCell ⟨g,k',none⟩ (ι γ (Qx d k m b k:Int))).drewN q2)∧ZP (((wr.setCell ⟨g,k,none⟩ (ι γ (Qx d k m b k':Int))).setCell ⟨g,k',none⟩ (ι γ (Qx d k m b k:Int))).drewN q2) g n (Qx d k' m b) r):=by intro q2;refine⟨(HD.out.1.trans (Um _ _ _ _ _ _)).trans (QB.drewN _ q2),?_⟩;have h1:=HM.out;subst h1;rw[Qrt d (show k'<m by omega),hk'];exact HD.out.2.swap (W:=wr) ω ω
     have w2:IntKind.i64.wrap ((k:Int)-1)=(k':Int):=by rw[IntKind.wrap_i64];omega
     have t1:(0:Int)≤(k:Int):=ω
     have t2:(k:Int)<(n:Int):=ω
     have t3:(0:Int)≤(k':Int):=ω
     have t4:(k':Int)<(n:Int):=ω
     have KA:Hid ((j≤k'∧k'≤m)∧k'<k):=⟨⟨ω,ω⟩,ω⟩;generalize Qx d k m b k=x at *;generalize Qx d k m b k'=y at *;have n1:k≠k':=ω
     have n2:k'≠k:=ω
     clear HD hk';go_wp2
     go_region
     go_wp2
     go_roundw
     case rel=>exact⟨k',KA.out.1,rfl,HN.out _⟩
     case measure=>have:=KA.out;simp[intOf];omega
    ·obtain rfl:k=j:=ω
     have Ww:¬(k:Int)<(k:Int):=ω
     go_wp2
     go_end0
     exact⟨rfl,HD.out.1,Qx d k m b,HD.out.2,HS.out.2,HS.out.1⟩
def Í(g n gf K C:Nat)(caps:Array Value)(z:Nat→Nat)(r:List Value)(len:Nat):Prop :=
 ∀(w:World)(d:Nat→Nat)(a m b:Nat),ZP w g n d r→Uf w g gf caps z K→(∀i,i<n→d i<K)→a<m→m<b→b≤n→b-a≤len→SO z d a m→SO z d m b→XX z d a m b→
  Calls Tryz.prog 129 #[ς (some ⟨g,0,none⟩) n C,ι γ (a:Int),ι γ (m:Int),ι γ (b:Int),.func (.func gf) #[] caps] w (Xn w g n r z d a b)
theorem Qki{w:World}{g n gf K len:Nat}{caps:Array Value}{z d:Nat→Nat}{r:List Value}(C a m b:Nat)(hz:∀x,z x≤1000000)(hn:n≤1000000)(ih:Í g n gf K C caps z r len)(h:ZP w g n d r)(hc:Uf w g gf caps z K)(hK:∀i,i<n→d i<K)(vg:a+1<m)(hmb:m+1<b)(hb:b≤n)(hlen:b-a≤len+1)(lo:SO z d a m)(hi:SO z d m b)(hx:XX z d a m b) :
 Calls Tryz.prog 129 #[ς (some ⟨g,0,none⟩) n C,ι γ (a:Int),ι γ (m:Int),ι γ (b:Int),.func (.func gf) #[] caps] w (Xn w g n r z d a b):=by
 have HC:=QA hc;have HK:=QA hK;have HZ:=QA hz;have Sm:=QA ih;have HO:=QA (show SO z d a m∧SO z d m b∧XX z d a m b from⟨lo,hi,hx⟩);have HW:=QA h;have eg:=hc.1;unfold Vp at eg;obtain⟨ma,Bo⟩:∃ma:Int,(m:Int)-(a:Int)=ma:=⟨_,rfl⟩;obtain⟨bm,Br⟩:∃bm:Int,(b:Int)-(m:Int)=bm:=⟨_,rfl⟩;obtain⟨s,hs⟩:=Mem.QD (a+b);obtain⟨mid,hmid⟩:=Mem.QD (s/2);obtain⟨nn,hnn⟩:=Mem.QD (mid+m);obtain⟨s0,hs0⟩:∃s0,s0=if m>mid then nn-b else a:=⟨_,rfl⟩
 obtain⟨r0,VN⟩:∃r0,r0=if m>mid then mid else m:=⟨_,rfl⟩
 obtain⟨pp,Hz⟩:=Mem.QD (nn-1);have w1:IntKind.i64.wrap ((m:Int)-(a:Int))=ma:=by rw[IntKind.wrap_i64];omega
 have w2:(ma==1)=false:=by rw[beq_eq_false_iff_ne];omega
 have w3:IntKind.i64.wrap ((b:Int)-(m:Int))=bm:=by rw[IntKind.wrap_i64];omega
 have w4:(bm==1)=false:=by rw[beq_eq_false_iff_ne];omega
 have w5:IntKind.i64.wrap ((a:Int)+(b:Int))=(s:Int):=by rw[IntKind.wrap_i64];omega
 have w6:IntKind.u64.wrap (s:Int)=(s:Int):=by rw[IntKind.wrap_u64];omega
 have w7:(s:Int)/2=(mid:Int):=ω
 have w8:IntKind.u64.wrap (mid:Int)=(mid:Int):=by rw[IntKind.wrap_u64];omega
 have w9:IntKind.i64.wrap (mid:Int)=(mid:Int):=by rw[IntKind.wrap_i64];omega
 have UT:IntKind.i64.wrap ((mid:Int)+(m:Int))=(nn:Int):=by rw[IntKind.wrap_i64];omega
 have Na:IntKind.i64.wrap ((nn:Int)-1)=(pp:Int):=by rw[IntKind.wrap_i64];omega
 have HM:Hid ((mid=(a+b)/2∧nn=mid+m)∧s0=(if m>mid then nn-b else a)∧r0=(if m>mid then mid else m)):=⟨⟨by rw[hs];exact hmid.symm,hnn.symm⟩,hs0,VN⟩;have Rb:=QA Hz;have lu:a<mid∧mid<b:=⟨ω,ω⟩;have D4:(a≤s0∧s0≤r0)∧(r0≤m∧r0≤mid):=by
  by_cases hm:m>mid
  ·rw[if_pos hm]at hs0 VN;omega
  ·rw[if_neg hm]at hs0 VN;omega
 have Q2g:nn≤b+m:=ω
 have hnb:m>mid→b≤nn:=fun _=>ω
 have HLEN:=QA hlen;obtain⟨bb,hbb⟩:=Mem.QD (decide ((mid:Int)<(m:Int)));clear h hc hK hz ih lo hi hx Bo Br hs hmid hlen;go_enter Tryz.func129,Tryz.ntmps129
 go_upto_if 140 with(fail)
 go_cut [20,21]from 141 to 146 (fun SJ BQ W=>SJ=ι γ (s0:Int)∧BQ=ι γ (r0:Int)∧W=w)
 case first =>
  cases bb with
  |true =>
   have hm:m>mid:=by have:=of_decide_eq_true hbb;omega
   rw[if_pos hm]at hs0 VN;have Wm:=hnb hm;have w12:IntKind.i64.wrap ((nn:Int)-(b:Int))=(s0:Int):=by rw[IntKind.wrap_i64];omega
   go_wp2
   go_meet
   case rel=>exact⟨by rw[hs0],by rw[VN],rfl⟩
  |false =>
   have hm:¬m>mid:=by have:=of_decide_eq_false hbb;omega
   rw[if_neg hm]at hs0 VN;go_wp2
   go_meet
   case rel=>exact⟨by rw[hs0],by rw[VN],rfl⟩
 case rest =>
  obtain⟨rfl,rfl,hw⟩:=hcut;have hw':=hw.symm;clear hw;subst hw';have HD:Hid ((QB g g w w∧ZP w g n d r)∧(∀c,s0≤c→c<s0→z (d (nn-1-c))≤z (d c))∧∀c,r0≤c→c<r0→z (d c)<z (d (nn-1-c))):=⟨⟨QB.refl g g w,HW.out⟩,fun k h1 h2=>ω,fun k h1 h2=>ω⟩;clear hbb w1 w2 w3 w4 w5 w6 w7 w8 w9 UT hs0 VN hnn HW;go_wp2
  go_loopw [20,21] (fun SJ BQ wr=>∃i j:Nat,(s0≤i∧i≤j∧j≤r0)∧SJ=ι γ (i:Int)∧BQ=ι γ (j:Int)∧Hid ((QB g g w wr∧ZP wr g n d r)∧(∀c,s0≤c→c<i→z (d (nn-1-c))≤z (d c))∧∀c,j≤c→c<r0→z (d c)<z (d (nn-1-c)))) (fun s t _=>(intOf t).toNat-(intOf s).toNat)
  case atStart=>exact⟨s0,r0,⟨Nat.le_refl _,D4.1.2,Nat.le_refl _⟩,rfl,rfl,HD⟩
  case round =>
   clear HD;obtain⟨i,j,⟨hi1,hi2,PL⟩,rfl,rfl,HD⟩:=hrel;by_cases hij:i<j
   ·have Di:(i:Int)<(j:Int):=ω
    obtain⟨s,hs⟩:=Mem.QD (i+j);obtain⟨q,hq⟩:=Mem.QD (s/2);obtain⟨pq,PJ⟩:=Mem.QD (pp-q);have w1:IntKind.i64.wrap ((i:Int)+(j:Int))=(s:Int):=by rw[IntKind.wrap_i64];omega
    have w2:IntKind.u64.wrap (s:Int)=(s:Int):=by rw[IntKind.wrap_u64];omega
    have w3:(s:Int)/2=(q:Int):=ω
    have w4:IntKind.u64.wrap (q:Int)=(q:Int):=by rw[IntKind.wrap_u64];omega
    have w5:IntKind.i64.wrap (q:Int)=(q:Int):=by rw[IntKind.wrap_i64];omega
    have hnn:nn=mid+m:=HM.out.1.2;have Hz:nn-1=pp:=Rb.out;have w6:IntKind.i64.wrap ((pp:Int)-(q:Int))=(pq:Int):=by rw[IntKind.wrap_i64];omega
    have Ob:q<n:=ω
    have GZ:pq<n:=by
     have h1:=HM.out.2.1;have h2:=HM.out.1.1;by_cases hm:m>mid
     ·rw[if_pos hm]at h1;have:=hnb hm;omega
     ·rw[if_neg hm]at h1;omega
    obtain⟨p1,f1⟩:=HD.out.1.2.cell (i:=pq) GZ;obtain⟨p2,f2⟩:=HD.out.1.2.cell (i:=q) Ob;have Pv:Hid (∀q',Calls Tryz.prog gf (#[ι γ (d pq:Int),ι γ (d q:Int)]++caps) (wr.drewN q') fun e W'=>e=ρ (ι γ ((z (d q):Int)-(z (d pq):Int)))∧∃q'',W'=(wr.drewN q').drewN q''):=fun q'=>HC.out.2 _ (HD.out.1.1.trans (QB.drewN wr q')) _ _ (HK.out pq GZ) (HK.out q Ob)
    obtain⟨c,hc⟩:∃c:Int,(z (d q):Int)-(z (d pq):Int)=c:=⟨_,rfl⟩;rw[hc]at Pv;have hz1:=HZ.out (d pq);have hz2:=HZ.out (d q);have t1:(0:Int)≤(q:Int):=ω
    have t2:(q:Int)<(n:Int):=ω
    have t3:(0:Int)≤(pq:Int):=ω
    have t4:(pq:Int)<(n:Int):=ω
    have HQ:Hid (i≤q∧q<j):=⟨ω,ω⟩;by_cases hlt:c<0
    ·have HN:Hid (∀q',(QB g g w (wr.drewN q')∧ZP (wr.drewN q') g n d r)∧(∀c,s0≤c→c<i→z (d (nn-1-c))≤z (d c))∧∀c,q≤c→c<r0→z (d c)<z (d (nn-1-c))):=fun q'=>⟨⟨HD.out.1.1.trans (QB.drewN wr q'),HD.out.1.2⟩,HD.out.2.1,Qtr (s:=0) ω ω HM.out.1.1 HM.out.1.2 HM.out.2.1 HM.out.2.2 HO.out.1 HO.out.2.1 ω ω (by rw[Rb.out,PJ];omega)⟩
     generalize d q=x at *;generalize d pq=y at *;clear HD hs hq PJ hz1 hz2 hc hij hnn;go_wp2
     go_quiet ((refine(Pv.out _).mono ?_;rintro e w9 ⟨he,m9,JC⟩;exact⟨he,_,by rw[JC,World.drewN_drewN]⟩))
     go_wp2
     go_roundw
     case rel=>exact c79
     case measure=>have:=HQ.out;simp[intOf];omega
    ·have hd:decide (c<0)=false:=decide_eq_false hlt;have HN:Hid (∀q',(QB g g w (wr.drewN q')∧ZP (wr.drewN q') g n d r)∧(∀c,s0≤c→c<q+1→z (d (nn-1-c))≤z (d c))∧∀c,j≤c→c<r0→z (d c)<z (d (nn-1-c))):=fun q'=>⟨⟨HD.out.1.1.trans (QB.drewN wr q'),HD.out.1.2⟩,Qwn (s:=0) ω ω HM.out.1.1 HM.out.1.2 HM.out.2.1 HM.out.2.2 HO.out.1 HO.out.2.1 ω ω (by rw[Rb.out,PJ];omega),HD.out.2.2⟩
     generalize d q=x at *;generalize d pq=y at *;clear HD hs hq PJ hz1 hz2 hc hij hnn;go_wp2
     go_quiet ((refine(Pv.out _).mono ?_;rintro e w9 ⟨he,m9,JC⟩;exact⟨he,_,by rw[JC,World.drewN_drewN]⟩))
     go_wp2
     go_roundw
     case rel=>exact c71
     case measure=>have:=HQ.out;simp[intOf];omega
   ·obtain rfl:j=i:=ω
    have Di:¬(j:Int)<(j:Int):=ω
    have hnn:nn=mid+m:=HM.out.1.2;obtain⟨e,he⟩:=Mem.QD (nn-j);have w1:IntKind.i64.wrap ((nn:Int)-(j:Int))=(e:Int):=by rw[IntKind.wrap_i64];omega
    have hcut:=Qy9 (s:=j) ω ω HM.out.1.1 HM.out.1.2 HM.out.2.1 HM.out.2.2 hi1 PL HO.out.1 HO.out.2.1 HO.out.2.2 HD.out.2.1 HD.out.2.2;rw[he]at hcut;have EC:=QA hcut;obtain⟨⟨q1,q2,q3,q4,_,_,_,_,_⟩,q5⟩:=hcut;have ud:=QA q5;have hjm:j≤mid∧mid≤e:=⟨ω,ω⟩;have OZ:Hid (QB g g w wr∧ZP wr g n d r):=HD.out.1;obtain⟨R,hR⟩:=Mem.QD (Qx d j m e);have HR:=QA hR;have uK:Hid (∀i,i<n→R i<K):=by have:=(pN d q2 q3).bound ω HK.out;rw[hR]at this;exact this
    clear HD HM Rb hnn he hi1 hi2 PL D4 hR q5;obtain⟨b1,hb1⟩:=Mem.QD ((decide (j<m)&&decide (m<e)));have Z':=QA hb1;clear hb1
    go_upto_region 39 with(fail)
    go_cut [185]from 178 to 185 (fun s W=>s=τ b1∧W=wr)
    case first =>
     have hb1:=Z'.out;by_cases c1:j<m
     ·have c1':(j:Int)<(m:Int):=ω
      by_cases c2:m<e
      ·have Lj:(m:Int)<(e:Int):=ω
       have hb2:b1=true:=by rw[←hb1];simp[c1,c2]
       go_wp2
       go_meet
       case rel=>exact c127
      ·have Lj:¬(m:Int)<(e:Int):=ω
       have hb2:b1=false:=by rw[←hb1];simp[c1,c2]
       go_wp2
       go_meet
       case rel=>exact c127
     ·have c1':¬(j:Int)<(m:Int):=ω
      have hb2:b1=false:=by rw[←hb1];simp[c1]
      go_wp2
      go_meet
      case rel=>exact c127
    case rest =>
     obtain⟨rfl,hw⟩:=hcut;have hw':=hw.symm;clear hw;subst hw'
     go_upto_if 185 with(fail)
     go_cut []from 186 to 191 (fun W=>Hid (QB g g w W∧ZP W g n R r))
     case first =>
      have hb1:=Z'.out;cases b1 with
      |true =>
       simp only[Bool.and_eq_true,decide_eq_true_eq]at hb1;have DW:=QA (Qkr OZ.out.2 C j m e (.func (.func gf) #[] caps) hb1.1 hb1.2 ω hn);rw[HR.out]at DW;clear hb1;go_wp2_with fail;refine DW.out.mono ?_;rintro e1 w9 ⟨rfl,ht,hd⟩;have Rp:Hid (QB g g w w9∧ZP w9 g n R r):=⟨OZ.out.1.trans ht,hd⟩;clear ht hd;go_wp2
       go_meet
       case rel=>exact Rp
      |false =>
       have Rp:Hid (QB g g w wr∧ZP wr g n R r):=by
        refine⟨OZ.out.1,?_⟩;rw[←HR.out,il d]
        ·exact OZ.out.2
        ·simp only[Bool.and_eq_false_iff,decide_eq_false_iff_not]at hb1;omega
       clear hb1;go_wp2
       go_meet
       case rel=>exact Rp
     case rest =>
      obtain⟨wx,hwx⟩:∃wx,wx=wc:=⟨_,rfl⟩;subst hwx;have Bh:=hcut;clear hcut OZ;obtain⟨b2,hb2⟩:=Mem.QD ((decide (a<j)&&decide (j<mid)));have XC:=QA hb2;clear hb2 Z'
      go_upto_region 41 with(fail)
      go_cut [199]from 192 to 199 (fun s W=>s=τ b2∧W=wx)
      case first =>
       have hb1:=XC.out;by_cases c1:a<j
       ·have c1':(a:Int)<(j:Int):=ω
        by_cases c2:j<mid
        ·have Lj:(j:Int)<(mid:Int):=ω
         have hb2:b2=true:=by rw[←hb1];simp[c1,c2]
         go_wp2
         go_meet
         case rel=>exact c127
        ·have Lj:¬(j:Int)<(mid:Int):=ω
         have hb2:b2=false:=by rw[←hb1];simp[c1,c2]
         go_wp2
         go_meet
         case rel=>exact c127
       ·have c1':¬(a:Int)<(j:Int):=ω
        have hb2:b2=false:=by rw[←hb1];simp[c1]
        go_wp2
        go_meet
        case rel=>exact c127
      case rest =>
       obtain⟨rfl,hw⟩:=hcut;have hw':=hw.symm;clear hw;subst hw'
       go_upto_if 199 with(fail)
       go_cut []from 200 to 205 (fun W=>∃f,Hid ((QB g g w W∧ZP W g n f r)∧Pm a mid R f∧SO z f a mid))
       case first =>
        have hb1:=XC.out;cases b2 with
        |true =>
         simp only[Bool.and_eq_true,decide_eq_true_eq]at hb1;have HS:=QA (Sm.out wx R a j mid Bh.out.2 (HC.out.turn Bh.out.1) uK.out hb1.1 hb1.2 ω (by have:=HLEN.out;omega) (by rw[←HR.out];exact EC.out.1.jt) (by rw[←HR.out];have:=EC.out.1.Ah;rw[ud.out]at this;exact this) (by rw[←HR.out];have:=EC.out.1.x1;rw[ud.out]at this;exact this));clear hb1;go_wp2_with fail;refine HS.out.mono ?_;rintro e1 w9 ⟨rfl,ht,f,hd,hp,ho⟩;have Rp:Hid ((QB g g w w9∧ZP w9 g n f r)∧Pm a mid R f∧SO z f a mid):=⟨⟨Bh.out.1.trans ht,hd⟩,hp,ho⟩;clear ht hd hp ho;go_wp2
         go_meet
         case rel=>exact⟨f,Rp⟩
        |false =>
         have Rp:Hid ((QB g g w wx∧ZP wx g n R r)∧Pm a mid R R∧SO z R a mid):=by
          refine⟨Bh.out,Pm.refl _ _ _,?_⟩;simp only[Bool.and_eq_false_iff,decide_eq_false_iff_not]at hb1;rw[←HR.out];have s1:=EC.out.1.jt;have s2:=EC.out.1.Ah;rw[ud.out]at s2;by_cases e1:j=a
          ·rw[e1]at s2⊢;exact s2
          ·rw[show j=mid by omega]at s1⊢;exact s1
         clear hb1;go_wp2
         go_meet
         case rel=>exact⟨R,Rp⟩
       case rest =>
        obtain⟨wy,hwy⟩:∃wy,wy=wc:=⟨_,rfl⟩;subst hwy;obtain⟨f,Mb⟩:=hcut;clear Bh XC
        go_upto_region 43 with(fail)
        have HF:Hid (SO z f mid e∧SO z f e b∧XX z f mid e b∧∀i,i<n→f i<K):=by have h3:=EC.out.1.so3;have h4:=EC.out.1.so4;have h5:=EC.out.1.x2;rw[ud.out,HR.out]at h3 h5;rw[HR.out]at h4;have hp:=Mb.out.2.1;refine⟨h3.keep hp (.inr (Nat.le_refl _)),h4.keep hp (.inr ω),fun i' j' g1 g2 g3 g4=>?_,hp.bound ω uK.out⟩;rw[hp.out (.inr g1),hp.out (.inr ω)];exact h5 i' j' g1 g2 g3 g4
        have XB:Hid (∀g',Pm mid b f g'→SO z g' mid b→SO z g' a b∧Pm a b d g'):=fun g' hp ho=>by
         have:=EC.out.1.done (f:=f) (g:=g');rw[ud.out,HR.out]at this;exact this Mb.out.2.1 Mb.out.2.2 hp ho
        by_cases c1:mid<e
        ·have c1':(mid:Int)<(e:Int):=ω
         by_cases c2:e<b
         ·have Lj:(e:Int)<(b:Int):=ω
          have HS:=QA (Sm.out wy f mid e b Mb.out.1.2 (HC.out.turn Mb.out.1.1) HF.out.2.2.2 c1 c2 hb (by have:=HLEN.out;omega) HF.out.1 HF.out.2.1 HF.out.2.2.1);go_wp2_with fail;refine HS.out.mono ?_;rintro e1 w9 ⟨rfl,ht,f',hd,hp,ho⟩;have Rp:Hid ((QB g g w w9∧ZP w9 g n f' r)∧Pm a b d f'∧SO z f' a b):=⟨⟨Mb.out.1.1.trans ht,hd⟩,(XB.out f' hp ho).2,(XB.out f' hp ho).1⟩;clear ht hd hp ho;go_wp2
          go_end0
          exact⟨rfl,Rp.out.1.1,f',Rp.out.1.2,Rp.out.2.1,Rp.out.2.2⟩
         ·have Lj:¬(e:Int)<(b:Int):=ω
          have Rp:Hid (Pm a b d f∧SO z f a b):=by have:=XB.out f (Pm.refl _ _ _) (by have:=HF.out.1;rw[show e=b by omega]at this;exact this);exact⟨this.2,this.1⟩
          go_wp2
          go_end0
          exact⟨rfl,Mb.out.1.1,f,Mb.out.1.2,Rp.out.1,Rp.out.2⟩
        ·have c1':¬(mid:Int)<(e:Int):=ω
         have Rp:Hid (Pm a b d f∧SO z f a b):=by have:=XB.out f (Pm.refl _ _ _) (by have:=HF.out.2.1;rw[show e=mid by omega]at this;exact this);exact⟨this.2,this.1⟩
         go_wp2
         go_end0
         exact⟨rfl,Mb.out.1.1,f,Mb.out.1.2,Rp.out.1,Rp.out.2⟩
theorem Qcu{g n gf K:Nat}{caps:Array Value}{z:Nat→Nat}{r:List Value}(C:Nat)(hz:∀x,z x≤1000000)(hn:n≤1000000):∀len,Í g n gf K C caps z r len
 |0=>fun w d a m b _ _ _ h1 h2 _ h4 _ _ _=>ω
 |len+1=>fun w d a m b h hc hK vg hmb hb hlen lo hi hx=>by
  by_cases h1:a+1=m
  ·exact Qkh h hc hK hz C a m b h1 hmb hb hn hi hx
  ·by_cases h2:m+1=b
   ·exact Qhu h hc hK hz C a m b h2 ω hb hn lo hx
   ·exact Qki C a m b hz hn (Qcu C hz hn len) h hc hK ω ω hb hlen lo hi hx
theorem Eq(v cmp:Value)(w:World):Calls prog 128 #[v,ι γ 0,ι γ 0,cmp] w fun e w'=>e = ρ (.tuple #[])∧w'=w:=by
 go_enter func128,ntmps128;go_wp2
 go_loopw [8] (fun s8 wr=>s8=ι γ 1∧wr=w) (fun _ _=>0)
 case atStart=>exact⟨rfl,rfl⟩
 case round =>
  obtain⟨rfl,hw⟩:=hrel;subst hw;go_wp2
  go_end0
  exact⟨rfl,rfl⟩
theorem Qhy(v cmp:Value)(w:World):Calls prog 99 #[v,ι γ 0,cmp] w fun e w'=>e = ρ (.tuple #[])∧w'=w:=by
 have HI:=QA (Eq v cmp w);go_enter func99,ntmps99;go_wp2
 go_loopw [7,8] (fun s7 s8 wr=>s7=ι γ 0∧s8=ι γ 20∧wr=w) (fun _ _ _=>0)
 case atStart=>exact⟨rfl,rfl,rfl⟩
 case round =>
  obtain⟨rfl,rfl,hw⟩:=hrel;subst hw;go_wp2_with fail;refine c₁ HI.out fun w9 hw=>?_;subst hw;go_wp2
  go_loopw [6] (fun s6 wr=>s6=ι γ 20∧wr=w9) (fun _ _=>0)
  case atStart=>exact⟨rfl,rfl⟩
  case round =>
   obtain⟨rfl,hw⟩:=hrel;subst hw;go_wp2
   go_end0
   exact⟨rfl,rfl⟩
theorem Qkk{w:World}{g n gf K:Nat}{caps:Array Value}{z d:Nat→Nat}{r:List Value}(h:ZP w g n d r)(hc:Uf w g gf caps z K)(hK:∀i,i<n→d i<K)(hz:∀x,z x≤1000000)(C:Nat)(hn:n≤1000000)(hr:∀i j,i<j→j<n→d i<d j) :
 Calls prog 99 #[ς (some ⟨g,0,none⟩) n C,ι γ (n:Int),.func (.func gf) #[] caps] w (Xn w g n r z d 0 n):=by
 have HC:=QA hc;have HK:=QA hK;have HZ:=QA hz;have HSY:=QA (Qcu (g:=g) (n:=n) (gf:=gf) (K:=K) (caps:=caps) (z:=z) (r:=r) C hz hn 1000000);have HD:Hid ((QB g g w w∧ZP w g n d r∧Pm 0 n d d)∧Ins z d n 20 0):=⟨⟨QB.refl g g w,h,Pm.refl _ _ _⟩,Ins.zero hr⟩;clear h hc hK hz hr;go_enter func99,ntmps99;go_wp2
 go_loopw [7,8] (fun s7 s8 wr=>∃(A s:Nat)(d':Nat→Nat),A≤n∧s7=ι γ (A:Int)∧s8=ι γ ((A:Int)+20)∧Hid (A=s*20)∧Hid ((QB g g w wr∧ZP wr g n d' r∧Pm 0 n d d')∧Ins z d' n 20 s)) (fun s _ _=>n+1-(intOf s).toNat)
 case atStart=>exact⟨0,0,d,ZR _,rfl,rfl,(by show _=_;omega),HD⟩
 case round =>
  clear HD;obtain⟨A,s,d',hA,rfl,rfl,HA,HD⟩:=hrel;by_cases hb:A+20≤n
  ·have hb':(A:Int)+20≤(n:Int):=ω
   obtain⟨B,hB⟩:=Mem.QD (A+20);have eB:(A:Int)+20=(B:Int):=ω
   rw[eB]at hb'⊢;have hr:∀p q,A≤p→p<q→q<B→d' p<d' q:=fun p q h1 h2 h3=>HD.out.2.BV p q h2 (by rw[←HA.out];omega) ω
   have HI:=QA (X0 HD.out.1.2.1 (HC.out.turn HD.out.1.1) (HD.out.1.2.2.bound (QI _) HK.out) HZ.out C A B ω ω hn hr);have JP:=QA hB;clear hr hB eB;go_wp2_with fail;refine HI.out.mono ?_;rintro e w9 ⟨rfl,ht,f,hd,hp,ho⟩;have SH:Hid ((QB g g w w9∧ZP w9 g n f r∧Pm 0 n d f)∧Ins z f n 20 (s+1)):=by refine⟨⟨HD.out.1.1.trans ht,hd,HD.out.1.2.2.trans (hp.mono (ZR _) ω)⟩,?_⟩;have h1:=JP.out;have h2:=HA.out;rw[←h1,h2]at hp ho;exact HD.out.2.step ω hp ho
   have dC:B≤n:=ω
   have XC:Hid (B=(s+1)*20∧A<B):=⟨by have h1:=JP.out;have h2:=HA.out;omega,by have h1:=JP.out;omega⟩;clear ht hd hp ho HD HI hb;go_wp2
   go_roundw
   case rel=>exact⟨B,s+1,f,dC,rfl,by go_num,XC.out.1,SH⟩
   case measure=>have:=XC.out.2;simp[intOf];omega
  ·have hb':¬(A:Int)+20≤(n:Int):=ω
   have hr:∀p q,A≤p→p<q→q<n→d' p<d' q:=fun p q h1 h2 h3=>HD.out.2.BV p q h2 (by rw[←HA.out];omega) h3
   have HI:=QA (X0 HD.out.1.2.1 (HC.out.turn HD.out.1.1) (HD.out.1.2.2.bound (QI _) HK.out) HZ.out C A n hA (QI _) hn hr);clear hr;go_wp2_with fail;refine HI.out.mono ?_;rintro e w9 ⟨rfl,ht,f,hd,hp,ho⟩;have SH:Hid ((QB g g w w9∧ZP w9 g n f r∧Pm 0 n d f)∧Bx z f n 20):=by refine⟨⟨HD.out.1.1.trans ht,hd,HD.out.1.2.2.trans (hp.mono (ZR _) (QI _))⟩,?_⟩;have h2:=HA.out;rw[h2]at hp ho;exact HD.out.2.done ω ω hp ho
   clear ht hd hp ho HD HI hb hb' hA HA;go_wp2
   go_loopw [6] (fun s6 wr=>∃(t:Nat)(d':Nat→Nat),(0<t∧t≤2000020)∧s6=ι γ (t:Int)∧Hid ((QB g g w wr∧ZP wr g n d' r∧Pm 0 n d d')∧Bx z d' n t)) (fun s _=>n-(intOf s).toNat)
   case atStart=>exact⟨20,f,⟨ω,ω⟩,rfl,SH⟩
   case round =>
    clear SH;obtain⟨t,d',⟨ht0,ht1⟩,rfl,HD⟩:=hrel;by_cases htn:t<n
    ·have nW:(t:Int)<(n:Int):=ω
     obtain⟨T,hT⟩:=Mem.QD (2*t);have w1:IntKind.i64.wrap (2*(t:Int))=(T:Int):=by rw[IntKind.wrap_i64];omega
     have w1':IntKind.i64.wrap ((t:Int)*2)=(T:Int):=by rw[IntKind.wrap_i64];omega
     have HT:=QA hT;have Dw:0<T∧T≤2000000:=ω
     have HTt:Hid (t<T):=by show _<_;omega
     have HM:Hid ((QB g g w wr∧ZP wr g n d' r∧Pm 0 n d d')∧NK z d' n t 0):=⟨HD.out.1,HD.out.2.mrg⟩;clear HD hT;go_wp2
     go_loopw [7,8] (fun s7 s8 wr=>∃(A s:Nat)(d':Nat→Nat),A≤n∧s7=ι γ (A:Int)∧s8=ι γ ((A:Int)+(T:Int))∧Hid (A=s*(2*t))∧Hid ((QB g g w wr∧ZP wr g n d' r∧Pm 0 n d d')∧NK z d' n t s)) (fun s _ _=>n+1-(intOf s).toNat)
     case atStart=>exact⟨0,0,d',ZR _,rfl,ψ,(by show _=_;omega),HM⟩
     case round =>
      clear HM;obtain⟨A,s,d',hA,rfl,rfl,HA,HD⟩:=hrel;obtain⟨At,lV⟩:=Mem.QD (A+t);have w2:IntKind.i64.wrap ((A:Int)+(t:Int))=(At:Int):=by rw[IntKind.wrap_i64];omega
      obtain⟨B,hB⟩:=Mem.QD (A+T);have eB:(A:Int)+(T:Int)=(B:Int):=ω
      rw[eB];have JP:=QA hB;have Px:=QA lV;by_cases hb:B≤n
      ·have hb':(B:Int)≤(n:Int):=ω
       have HP:Hid (SO z d' A At∧SO z d' At B∧XX z d' A At B):=by have h1:=HA.out;have h2:=Px.out;have h3:=JP.out;have h4:=HT.out;have:=HD.out.2.pre (b:=B) ω ω hb;rw[←h1,h2]at this;exact this
       have HI:=QA (HSY.out wr d' A At B HD.out.1.2.1 (HC.out.turn HD.out.1.1) (HD.out.1.2.2.bound (QI _) HK.out) ω (by have:=HT.out;omega) hb ω HP.out.1 HP.out.2.1 HP.out.2.2);have w3:IntKind.i64.wrap ((B:Int)+(T:Int))=(B:Int)+(T:Int):=by rw[IntKind.wrap_i64];omega
       clear hB eB lV;go_wp2_with fail;refine HI.out.mono ?_;rintro e w9 ⟨rfl,ht,f,hd,hp,ho⟩;have XC:Hid (B=(s+1)*(2*t)∧A<B):=⟨by have h1:=JP.out;have h2:=HA.out;have h3:=HT.out;rw[Nat.succ_mul];omega,by have h1:=JP.out;omega⟩;have SH:Hid ((QB g g w w9∧ZP w9 g n f r∧Pm 0 n d f)∧NK z f n t (s+1)):=by refine⟨⟨HD.out.1.1.trans ht,hd,HD.out.1.2.2.trans (hp.mono (ZR _) ω)⟩,?_⟩;have h1:=JP.out;have h2:=HA.out;have h3:=HT.out;rw[←h1,←h3,h2]at hp ho;exact HD.out.2.step ω hp ho
       have dC:B≤n:=hb;clear ht hd hp ho HD HI hb hb';go_wp2
       go_roundw
       case rel=>exact⟨B,s+1,f,dC,rfl,rfl,XC.out.1,SH⟩
       case measure=>have:=XC.out.2;simp[intOf];omega
      ·have hb':¬(B:Int)≤(n:Int):=ω
       have MC:Hid ((0<T∧T≤2000020)∧n-T<n-t):=⟨ω,by have:=HTt.out;omega⟩;by_cases hm:At<n
       ·have hm':(At:Int)<(n:Int):=ω
        have HP:Hid (SO z d' A At∧SO z d' At n∧XX z d' A At n):=by have h1:=HA.out;have h2:=Px.out;have h3:=JP.out;have h4:=HT.out;have:=HD.out.2.pre (b:=n) ω ω (QI _);rw[←h1,h2]at this;exact this
        have HI:=QA (HSY.out wr d' A At n HD.out.1.2.1 (HC.out.turn HD.out.1.1) (HD.out.1.2.2.bound (QI _) HK.out) ω hm (QI _) ω HP.out.1 HP.out.2.1 HP.out.2.2);clear hB eB lV;go_wp2_with fail;refine HI.out.mono ?_;rintro e w9 ⟨rfl,ht,f,hd,hp,ho⟩;have SH:Hid ((QB g g w w9∧ZP w9 g n f r∧Pm 0 n d f)∧Bx z f n T):=by refine⟨⟨HD.out.1.1.trans ht,hd,HD.out.1.2.2.trans (hp.mono (ZR _) (QI _))⟩,?_⟩;have h1:=JP.out;have h2:=HA.out;have h3:=HT.out;rw[h2]at hp ho;rw[←h3];exact HD.out.2.done ω ω hp ho
        clear ht hd hp ho HD HI hb hb';go_wp2
        go_roundw
        case rel=>exact⟨T,f,MC.out.1,by go_num,SH⟩
        case measure=>have:=MC.out.2;simp[intOf];omega
       ·have hm':¬(At:Int)<(n:Int):=ω
        have SH:Hid ((QB g g w wr∧ZP wr g n d' r∧Pm 0 n d d')∧Bx z d' n T):=by refine⟨HD.out.1,?_⟩;have h1:=JP.out;have h2:=HA.out;have h3:=HT.out;have h4:=Px.out;rw[←h3];refine HD.out.2.done ω ω (Pm.refl _ _ _) (HD.out.2.last ω)
        clear HD hb hB eB lV;go_wp2
        go_roundw
        case rel=>exact⟨T,d',MC.out.1,by go_num,SH⟩
        case measure=>have:=MC.out.2;simp[intOf];omega
    ·have nW:¬(t:Int)<(n:Int):=ω
     have HE:Hid (SO z d' 0 n):=HD.out.2.all ω;go_wp2
     go_end0
     exact⟨rfl,HD.out.1.1,d',HD.out.1.2.1,HD.out.1.2.2,HE.out⟩
theorem Qc4{w:World}{g n gf K:Nat}{caps:Array Value}{z d:Nat→Nat}{r:List Value}(h:ZP w g n d r)(hc:Uf w g gf caps z K)(hK:∀i,i<n→d i<K)(hz:∀x,z x≤1000000)(C:Nat)(hn:n≤1000000)(hr:∀i j,i<j→j<n→d i<d j) :
 Calls prog 67 #[ς (some ⟨g,0,none⟩) n C,.func (.func gf) #[] caps] w (Xn w g n r z d 0 n):=by
 have HS:=QA (Qkk h hc hK hz C hn hr);clear h hc hK hz hr;go_enter func67,ntmps67;go_wp2_with fail;refine c₁ HS.out fun w9 ht=>?_;have HT:=QA ht;clear ht;go_wp2
 go_end0
 exact⟨rfl,HT.out⟩
theorem Qb3(A:Option Addr)(C:Nat)(cmp:Value)(w:World):Calls prog 67 #[ς A 0 C,cmp] w fun e w'=>e = ρ (.tuple #[])∧w'=w:=by
 have HS:=QA (Qhy (ς A 0 C) cmp w);go_enter func67,ntmps67;go_wp2_with fail;refine HS.out.mono ?_;rintro e w9 ⟨rfl,rfl⟩;go_wp2
 go_end0
 exact⟨rfl,rfl⟩
end Match
namespace Shape
open Mem Tree
def keeps(W:World)(lo:Nat):Nat→List QC
 |0=>[]
 |n+1=>keeps W lo n++[bN (lo+n) ((W.heap[lo+n]?).getD (θ #[] 0 (0,0)))]
theorem õ{W:World}{lo:Nat}:∀{n:Nat}{t:QC},t∈keeps W lo n→∃i,i<n∧t.b=some (lo+i)
 |0,t,h=>by cases h
 |n+1,t,h=>by
  rcases List.mem_append.1 h with h|h
  ·obtain⟨i,hi,e⟩:=õ h;exact⟨i,ω,e⟩
  ·rw[List.mem_singleton.1 h];exact⟨n,Nat.lt_succ_self n,rfl⟩
theorem Ŝ{W:World}{lo:Nat}:∀{n i:Nat},i<n→∃o,bN (lo+i) o∈keeps W lo n
 |0,i,h=>ω
 |n+1,i,h=>by
  by_cases e:i=n
  ·subst e;exact⟨_,List.mem_append_right _ (List.mem_singleton.2 rfl)⟩
  ·obtain⟨o,ho⟩:=Ŝ (W:=W) (lo:=lo) (n:=n) (i:=i) ω;exact⟨o,List.mem_append_left _ ho⟩
theorem ű{W:World}{B lo:Nat}{R:List QC}(h:QH W B R)(hR:∀t∈R,∀b,t.b=some b→b<lo)(hB:B≤lo):∀n,lo+n≤W.heap.size→QH W B (R++keeps W lo n)
 |0,_=>by rw[keeps,List.append_nil];exact h
 |n+1,hn=>by
  have ih:=ű h hR hB n ω;rw[keeps,←List.append_assoc];have hlt:lo+n<W.heap.size:=ω
  refine⟨fun t ht=>?_,fun t ht b hb=>?_,?_,ih.B⟩
  ·rcases List.mem_append.1 ht with ht|ht
   ·exact ih.h t ht
   ·rw[List.mem_singleton.1 ht];show W.heap[lo+n]?=some _;rw[Array.getElem?_eq_getElem hlt];rfl
  ·rcases List.mem_append.1 ht with ht|ht
   ·exact ih.ge t ht b hb
   ·rw[List.mem_singleton.1 ht]at hb;injection hb with hb;omega
  ·rw[List.pairwise_append];refine⟨ih.ap,List.pairwise_singleton _ _,fun s hs u hu=>.inr ?_⟩;rw[List.mem_singleton.1 hu];intro e;have e:s.b=some (lo+n):=e;rcases List.mem_append.1 hs with hs|hs
   ·have:=hR s hs _ e;omega
   ·obtain⟨i,hi,e'⟩:=õ hs;rw[e']at e;injection e with e;omega
theorem Qu2{w:World}{S:Nat→Prop}{v:Value}{ps:List (Nd×Value)}(ho:w.ownsRow 0 24 4 v ps.length (ps.flatMap VC))(hS:∀g,v.ownBlock=some g→S g)(hf:∀p∈ps,Fs w S p.2 p.1.c):Fs w S v (YG (ps.map (·.1))):=by
 rcases ho.2 with⟨rfl,h0⟩|⟨g,cap,cur,rfl,hg0,hg,q1,q2,q3,q4⟩
 ·exact c103
 ·have hc:=ho.cells (g:=g) rfl;have ad:∀j,(⟨g,0,none⟩:Addr).add j=⟨g,j,none⟩:=fun j=>by unfold Addr.add;split <;> simp_all
  refine Yf g (hS g rfl) ps 0 ps.length cap rfl q1 q2 (fun j u hu=>?_) hf _ (.inr rfl);have:=hc j u hu;rwa[ad,←Nat.zero_add j]at this
theorem Qrz{w3 W:World}{g:Nat}(hg:w3.heap[g]?=some (θ #[ς none 0 0,ς none 0 0,ς none 0 0,ς none 0 0] 59 (0,0)))(hg2:w3.heap.size=g+1)(hb:Below w3.heap.size w3 W):PS W g (Ll w3.heap.size W) (keeps W w3.heap.size (W.heap.size-w3.heap.size)) g [] [] [] []:=by
 have ho:W.ownsRow 0 59 4 (ς (some ⟨g,0,none⟩) 1 1) 1 [ς none 0 0,ς none 0 0,ς none 0 0,ς none 0 0]:=by refine⟨rfl,.inr ⟨g,1,#[ς none 0 0,ς none 0 0,ς none 0 0,ς none 0 0],rfl,Nat.zero_le _,(hb.block g ω).trans hg,Nat.le_refl _,by unfold maxLen;omega,rfl,rfl⟩⟩
 have hs:=hb.size
 have h0:QH W g [Kf 59 g [ς none 0 0,ς none 0 0,ς none 0 0,ς none 0 0]]:=⟨fun t ht=>by rw[List.mem_singleton.1 ht];exact ho,fun t ht k hk=>by
  rw[List.mem_singleton.1 ht]at hk;have hk:some g=some k:=hk;injection hk with hk;omega,List.pairwise_singleton _ _,ω⟩
 have h1:=(((h0.VQ (e:=24) (sz:=4)).VQ (e:=3) (sz:=1)).VQ (e:=3) (sz:=1)).VQ (e:=32) (sz:=1);have h2:=ű h1 (lo:=w3.heap.size) (fun t ht b Ml=>?_) ω (W.heap.size-w3.heap.size) ω
 ·refine⟨⟨ς none 0 0,ς none 0 0,ς none 0 0,ς none 0 0,[],[],h2,rfl,fun p hp=>(by cases hp),rfl⟩,fun b hb'=>?_⟩;obtain⟨hb1,hb2⟩:=hb';obtain⟨o,ho⟩:=Ŝ (W:=W) (lo:=w3.heap.size) (n:=W.heap.size-w3.heap.size) (i:=b-w3.heap.size) ω;rw[show w3.heap.size+(b-w3.heap.size)=b by omega]at ho;exact .inr ⟨o,ho⟩
 ·simp only[List.cons_append,List.nil_append,List.mem_cons,List.not_mem_nil,or_false]at ht;rcases ht with rfl|rfl|rfl|rfl|rfl
  ·have Ml:some g=some b:=Ml;injection Ml with Ml;omega
  all_goals cases Ml
def Ì(w:World)(k:Int)(x y:ByteArray)(c:F)(e:Ending)(w':World):Prop :=
 Below w.heap.size w w'∧∃(gN cN:Nat)(vP vS vK s:Value),e=ρ (ξ #[ς (some ⟨gN,0,none⟩) (c.size+1) cN,vP,vS,vK])∧Vg w' (In w.heap.size w'.heap.size) (one k x y c) (ξ #[ς (some ⟨gN,0,none⟩) (c.size+1) cN,vP,vS,vK])∧
  w.heap.size≤gN∧w'.cell? ⟨gN,3,none⟩=some s∧TF w' s∧Fs w' (In w.heap.size w'.heap.size) s c
theorem Qyc{w W w':World}{g:Nat}{X:List QC}{k:Int}{x y:ByteArray}{c:F}{vN vP vS vK:Value}{us:List Value}{nps:List (Nd×Value)}(hb:Below w.heap.size w w')(hg:w.heap.size≤g)(hW:w.heap.size≤W.heap.size)
 (hF:QH w' g (PR g vN vP vS vK nps.length (nps.flatMap VC) (Jn (-1) 0 (one k x y c)).length ((Jn (-1) 0 (one k x y c)).map iv) (Zt (one k x y c)).length ((Zt (one k x y c)).map iv) us.length us us (Z7 0 (one k x y c)) X))
 (hL:nps.map (·.1)=nodes (one k x y c)) (hf:∀p∈nps,Fs w' (Ll W.heap.size w') p.2 p.1.c∧TF w' p.2) (KU:us.length=(Z7 0 (one k x y c)).length):Ì w k x y c (ρ (ξ #[vN,vP,vS,vK])) w':=by
 have hlen:nps.length=c.size+1:=by have:=congrArg List.length hL;rwa[List.length_map,Qj,Q4]at this
 obtain⟨gN,cN,rfl,_,_⟩:=hF.sliceAt (i:=1) rfl ω;have hgN:=hF.lt (k:=gN) (List.mem_of_getElem? (i:=1) rfl) rfl;have hI:∀b,In g w'.heap.size b→In w.heap.size w'.heap.size b:=fun b hb=>⟨Nat.le_trans hg hb.1,hb.2⟩
 have hR:∀b,Ll W.heap.size w' b→In w.heap.size w'.heap.size b:=fun b hb=>⟨Nat.le_trans hW hb.1,hb.2⟩
 obtain⟨p0,ps,rfl⟩:∃p0 ps,nps=p0::ps:=by
  cases nps with
  |nil=>simp at hlen
  |cons p ps=>exact⟨p,ps,rfl⟩
 have hp0:p0.1=⟨k,x,y,c⟩:=by rw[Gm]at hL;simp only[List.map_cons,List.cons.injEq]at hL;exact hL.1
 obtain⟨n0,s⟩:=p0;have hp0:n0=⟨k,x,y,c⟩:=hp0;subst hp0;have h0:=hf _ List.mem_cons_self;have hc:=(yJ (j:=1) (nps:=(⟨k,x,y,c⟩,s)::ps) hF rfl (i:=0) rfl).2.2.2;rw[show 0*4+3=3 from rfl]at hc;refine⟨hb,gN,cN,vP,vS,vK,s,by rw[hlen],⟨ς (some ⟨gN,0,none⟩) (c.size+1) cN,vP,vS,vK,rfl,?_,(hF.Nb (i:=2) rfl).more hI,(hF.Nb (i:=3) rfl).more hI,(ÿ (m:=0) hF (i:=4) rfl KU fun j u l hj hk=>⟨j+5,OH hj hk⟩).more hI⟩,Nat.le_trans hg hgN.1,hc,h0.2,h0.1.more hR⟩;rw[←hL,←hlen];exact Qu2 (hF.get (i:=1) rfl) (fun q hq=>by have hq:some gN=some q:=hq;injection hq with hq;subst hq;exact hI _ hgN) fun p hp=>(hf p hp).1.more hR
theorem Ă(f:F):∀z∈Zt f,0≤z∧z≤(f.size:Int):=fun z hz=>by
 rw[Xe]at hz;obtain⟨nd,hnd,rfl⟩:=List.mem_map.1 hz;obtain⟨i,hi⟩:=List.getElem?_of_mem hnd;have:=Em f i nd hi;exact⟨ω,by show((nd.c.size+1:Nat):Int)≤_;omega⟩
theorem Qu5(k:Int)(x y:ByteArray)(A:Option Addr)(n C:Nat)(c:F)(w:World)(hf:Fs w (Lo w.heap.size) (ς A n C) c)(hc:c.size≤45000)(hsm:∀i,Xc (Zt (one k x y c)) i≤4194304) :
 Calls Tryz.prog 37 #[ξ #[ι γ k,σ x,σ y,ς A n C]] w (Ì w k x y c):=by
 have b1:=Qa w (θ #[ι γ k,σ x,σ y,ς A n C] 24);have b2:=Qa (w.alloc (θ #[ι γ k,σ x,σ y,ς A n C] 24)) (θ #[ς none 0 0,ς none 0 0,ς none 0 0,ς none 0 0] 59);have b3:=Qa ((w.alloc (θ #[ι γ k,σ x,σ y,ς A n C] 24)).alloc (θ #[ς none 0 0,ς none 0 0,ς none 0 0,ς none 0 0] 59)) (θ #[ς none 0 0,ς none 0 0,ς none 0 0,ς none 0 0] 59);have UC:=b1.trans (b2.mono b1.size);have DG:=UC.trans (b3.mono UC.size);have hq:=fL w k x y (ς A n C) (W:=((w.alloc (θ #[ι γ k,σ x,σ y,ς A n C] 24)).alloc (θ #[ς none 0 0,ς none 0 0,ς none 0 0,ς none 0 0] 59)).alloc (θ #[ς none 0 0,ς none 0 0,ς none 0 0,ς none 0 0] 59)) (b2.trans (b3.mono b2.size));have hg:(((w.alloc (θ #[ι γ k,σ x,σ y,ς A n C] 24)).alloc (θ #[ς none 0 0,ς none 0 0,ς none 0 0,ς none 0 0] 59)).alloc (θ #[ς none 0 0,ς none 0 0,ς none 0 0,ς none 0 0] 59)).heap[w.heap.size+1+1]?=some (θ #[ς none 0 0,ς none 0 0,ς none 0 0,ς none 0 0] 59 (0,0)):=by have:=heap_alloc_new ((w.alloc (θ #[ι γ k,σ x,σ y,ς A n C] 24)).alloc (θ #[ς none 0 0,ς none 0 0,ς none 0 0,ς none 0 0] 59)) (θ #[ς none 0 0,ς none 0 0,ς none 0 0,ς none 0 0] 59);rwa[show((w.alloc (θ #[ι γ k,σ x,σ y,ς A n C] 24)).alloc (θ #[ς none 0 0,ς none 0 0,ς none 0 0,ς none 0 0] 59)).heap.size=w.heap.size+1+1 by simp]at this
 have hr:(((w.alloc (θ #[ι γ k,σ x,σ y,ς A n C] 24)).alloc (θ #[ς none 0 0,ς none 0 0,ς none 0 0,ς none 0 0] 59)).alloc (θ #[ς none 0 0,ς none 0 0,ς none 0 0,ς none 0 0] 59)).heap[w.heap.size+1]?=some (θ #[ς none 0 0,ς none 0 0,ς none 0 0,ς none 0 0] 59 (0,0)):=(b3.block _ ψ).trans (bI w _ _);have hsz:(((w.alloc (θ #[ι γ k,σ x,σ y,ς A n C] 24)).alloc (θ #[ς none 0 0,ς none 0 0,ς none 0 0,ς none 0 0] 59)).alloc (θ #[ς none 0 0,ς none 0 0,ς none 0 0,ς none 0 0] 59)).heap.size=w.heap.size+1+1+1:=ψ
 have FJ:=Ei c.size k x y A n C c _ (Nat.le_refl _) ω ((hf.below DG (Nat.le_refl _)).up DG.size);obtain⟨w3,hw3⟩:∃w3,((w.alloc (θ #[ι γ k,σ x,σ y,ς A n C] 24)).alloc (θ #[ς none 0 0,ς none 0 0,ς none 0 0,ς none 0 0] 59)).alloc (θ #[ς none 0 0,ς none 0 0,ς none 0 0,ς none 0 0] 59)=w3:=⟨_,rfl⟩;rw[hw3]at DG hq hg hr hsz FJ;obtain⟨q0,q1,q2,q3⟩:=hq;have Ac:=QA FJ;have HG:=QA hg;have HR:=QA hr;have XO:=QA hsz;have VG:=QA DG;have HC:=QA hc;have Tq:=QA hsm;clear hf b1 b2 b3 UC DG hg hr hsz FJ hc hsm;go_enter Tryz.func37,Tryz.ntmps37;go_wp2_with fail;try rw[hw3]
 clear hw3;refine Ac.out.mono ?_;rintro e w4 ⟨hb4,A4,n4,C4,rfl,zZ,ht4⟩;have hps:=Qrz (g:=w.heap.size+1+1) HG.out XO.out hb4;have HAD:=QA (pS c.size k x y A4 n4 C4 c (-1) w4 (w.heap.size+1+1) _ _ (w.heap.size+1+1) [] [] [] [] (Nat.le_refl _) zZ hps rfl rfl rfl (by have:=HC.out;simp only[List.length_nil];omega) ω ω);have KF:=VO VG hb4;have hr4:w4.heap[w.heap.size+1]?=some (θ #[ς none 0 0,ς none 0 0,ς none 0 0,ς none 0 0] 59 (0,0)):=(hb4.block _ (by have:=XO.out;omega)).trans HR.out;have HR4:=QA hr4;clear q0 q1 q2 q3 hb4 zZ ht4 hps Ac hr4 HR;go_wp2_with fail;refine HAD.out.mono ?_;rintro e w5 ⟨rfl,Fv,Y'⟩;simp only[List.nil_append,List.length_nil]at Fv;have hz:=Ă (one k x y c);rw[Q4]at hz
 have NR:=QA (Qr4 w5 _ _ _ _ _ _ _ _ Fv (fun z h=>⟨(hz z h).1,by have:=(hz z h).2;have:=HC.out;omega⟩) Tq.out (by rw[E6,Q4];have:=HC.out;omega) (by rw[Qj,Q4];omega) (by rw[Qj,Q4];have:=HC.out;omega) (fun nd hnd=>by
  obtain⟨i,hi⟩:=List.getElem?_of_mem hnd;have:=Em _ i nd hi;rw[Q4]at this;have:=HC.out;omega) (fun b hb=>Nat.lt_of_lt_of_le hb.2 Y'.size))
 have LO:=QA (KF.out.trans (Y'.mono (show w.heap.size≤w.heap.size+1+1 by omega)));have BC:Hid (w5.heap[w.heap.size+1]?=some (θ #[ς none 0 0,ς none 0 0,ς none 0 0,ς none 0 0] 59 (0,0))):=(Y'.block _ ω).trans HR4.out;clear Fv Y' hz HAD HR4;go_wp2_with fail;refine NR.out.mono ?_;rintro e w6 ⟨rfl,⟨vN,vP,vS,vK,us,nps,hF,hL,VX,KU⟩,VH⟩;obtain⟨⟨p0,p1,p2,p3⟩,f0,f1,f2,f3⟩:=Zr hF (j:=0) rfl;have ll:w6.heap[w.heap.size+1]?=some (θ #[ς none 0 0,ς none 0 0,ς none 0 0,ς none 0 0] 59 (0,0)):=(VH.block _ ω).trans BC.out;obtain⟨y0,y1,y2,y3⟩:w6.cell? ⟨w.heap.size+1,0,none⟩=some (ς none 0 0)∧w6.cell? ⟨w.heap.size+1,1,none⟩=some (ς none 0 0)∧w6.cell? ⟨w.heap.size+1,2,none⟩=some (ς none 0 0)∧w6.cell? ⟨w.heap.size+1,3,none⟩=some (ς none 0 0):=by refine⟨?_,?_,?_,?_⟩ <;> simp[World.cell?,ll]
 obtain⟨r0,r1,r2,r3⟩:w6.frozen? ⟨w.heap.size+1,0,none⟩=false∧w6.frozen? ⟨w.heap.size+1,1,none⟩=false∧w6.frozen? ⟨w.heap.size+1,2,none⟩=false∧w6.frozen? ⟨w.heap.size+1,3,none⟩=false:=by refine⟨?_,?_,?_,?_⟩ <;> simp[World.frozen?,ll]
 have XB:=QA (E7 (E7 (E7 (E7 ll 0 vN) 1 vP) 2 vS) 3 vK);have Mg:w.heap.size+1<w.heap.size+1+1:=ω
 have hend:=(((hF.Pz Mg 0 vN).Pz Mg 1 vP).Pz Mg 2 vS).Pz Mg 3 vK;have xV:=LO.out.trans (VH.mono (show w.heap.size≤w.heap.size+1+1 by omega));have UQ:=QA ((((xV.setCell (p:=⟨w.heap.size+1,0,none⟩) (Nat.le_succ _) vN).setCell (p:=⟨w.heap.size+1,1,none⟩) (Nat.le_succ _) vP).setCell (p:=⟨w.heap.size+1,2,none⟩) (Nat.le_succ _) vS).setCell (p:=⟨w.heap.size+1,3,none⟩) (Nat.le_succ _) vK);have JM:=QA hend;have hgt:w.heap.size+1<w5.heap.size:=by
  rcases Nat.lt_or_ge (w.heap.size+1) w5.heap.size with h1|h1
  ·exact h1
  ·have:=BC.out;rw[Array.getElem?_eq_none h1]at this;cases this
 have QP:Hid (∀p∈nps,Fs ((((w6.setCell ⟨w.heap.size+1,0,none⟩ vN).setCell ⟨w.heap.size+1,1,none⟩ vP).setCell ⟨w.heap.size+1,2,none⟩ vS).setCell ⟨w.heap.size+1,3,none⟩ vK) (Ll w5.heap.size ((((w6.setCell ⟨w.heap.size+1,0,none⟩ vN).setCell ⟨w.heap.size+1,1,none⟩ vP).setCell ⟨w.heap.size+1,2,none⟩ vS).setCell ⟨w.heap.size+1,3,none⟩ vK)) p.2 p.1.c∧TF ((((w6.setCell ⟨w.heap.size+1,0,none⟩ vN).setCell ⟨w.heap.size+1,1,none⟩ vP).setCell ⟨w.heap.size+1,2,none⟩ vS).setCell ⟨w.heap.size+1,3,none⟩ vK) p.2):=fun p hp=>by
  obtain⟨h1,h2⟩:=VX p hp;exact⟨(h1.keep fun b hb=>Vr _ _ _ _ _ _ _ (by have:=hb.1;omega)).more fun b hb=>⟨hb.1,by simpa using hb.2⟩,(((h2.set _ _ _).set _ _ _).set _ _ _).set _ _ _⟩
 have oX:Hid (w.heap.size≤w5.heap.size):=LO.out.size;have HL:=QA hL;have vQ:=QA KU;obtain⟨aN,cN,eN,_,_⟩:=hF.slice (i:=1) rfl;obtain⟨aP,cP,eP,_,_⟩:=hF.slice (i:=2) rfl;obtain⟨aS,cS,eS,_,_⟩:=hF.slice (i:=3) rfl;obtain⟨aK,cK,eK,_,_⟩:=hF.slice (i:=4) rfl;clear hF hL VX KU VH ll hend xV Mg hgt BC NR;subst eN eP eS eK;go_wp2;refine bodyPost_ret (results_cell_row rfl _ _ (w.heap.size+1) 59 _ (0,0) _ rfl XB.out Tryz.underlying59 rfl χ) rfl ?_;exact Qyc UQ.out ω oX.out JM.out HL.out QP.out vQ.out
theorem yG{k:Int}{x y:ByteArray}{c:F}(h:c.size≤1000):∀i,Xc (Zt (one k x y c)) i≤4194304:=fun i=>by
 have hz:=Ă (one k x y c);rw[Q4]at hz;have hl:(Zt (one k x y c)).length=c.size+1:=by rw[E6,Q4]
 have hi:Xc (Zt (one k x y c)) i=Xc (Zt (one k x y c)) (min i (c.size+1)):=by unfold Xc;rw[←hl,←List.take_eq_take_min]
 rw[hi];have h1:=ă (m:=1001) ω (fun z hz'=>by have:=(hz z hz').2;omega) (min i (c.size+1)) (by rw[hl];omega);have h2:((min i (c.size+1):Nat):Int)≤1001:=ω
 have h3:=Int.mul_le_mul_of_nonneg_right h2 (show(0:Int)≤1001 by decide);omega
theorem Ô(k:Int)(x y:ByteArray)(A:Option Addr)(n C:Nat)(c:F)(w:World)(hf:Fs w (Lo w.heap.size) (ς A n C) c)(hc:c.size≤45000)(hsm:∀i,Xc (Zt (one k x y c)) i≤4194304) :
 Calls Tryz.prog 37 #[ξ #[ι γ k,σ x,σ y,ς A n C]] w fun e w'=>Below w.heap.size w w'∧∃v,e=ρ v∧Vg w' (In w.heap.size w'.heap.size) (one k x y c) v :=
 (Qu5 k x y A n C c w hf hc hsm).mono fun e w' h=>by
 obtain⟨hb,gN,cN,vP,vS,vK,s,he,hp,_⟩:=h;exact⟨hb,_,he,hp⟩
abbrev Dm:=DataW Unit
structure KM(D:Dm)(KS:List (List UInt8)):Prop where
 tidy:Maps.Tidy D
 has:∀key,key∈KS→Maps.has D (.string key)=true
 WQ:∀key,key ∉ KS→Maps.has D (.string key)=false
 at_:∀(i:Nat) key,KS[i]?=some key→∀z,D.atKey (.string key) z=.lit (.int γ (i:Int))
 size:Maps.size D=KS.length
theorem isKey(key:List UInt8):WideAt.IsKeyLit (.string key):=by trivial
theorem KM.nil:KM (.map []) []:=⟨Maps.tidy_empty,fun key h=>(by cases h),fun key h=>rfl,fun i key h=>(by simp at h),rfl⟩
theorem KM.put{D:Dm}{KS:List (List UInt8)}(h:KM D KS){key:List UInt8}(hk:key ∉ KS)(hn:KS.Nodup):KM (D.put (.string key) (.lit (.int γ (KS.length:Int)))) (KS++[key]):=by
 have hne:∀k',k'∈KS→(Lit.string k')≠.string key:=fun k' h' e=>hk (by injection e with e;rw[←e];exact h')
 refine⟨h.tidy.put (isKey key) _,fun k' h'=>?_,fun k' h'=>?_,fun i k' h' z=>?_,?_⟩
 ·rcases List.mem_append.1 h' with h' |h'
  ·rw[Maps.has_put_other (hne k' h')];exact h.has k' h'
  ·rw[List.mem_singleton.1 h'];exact Maps.has_put_same h.tidy.isMap (isKey key) _
 ·have h1:k' ∉ KS:=fun q=>h' (List.mem_append_left _ q)
  have h2:k'≠key:=fun q=>h' (List.mem_append_right _ (by rw[q];exact List.mem_singleton.2 rfl))
  rw[Maps.has_put_other (fun e=>h2 (by injection e))];exact h.WQ k' h1
 ·by_cases hi:i<KS.length
  ·rw[List.getElem?_append_left hi]at h';rw[Maps.atKey_put_other (hne k' (List.mem_of_getElem? h'))];exact h.at_ i k' h' z
  ·rw[List.getElem?_append_right ω]at h';have h0:i-KS.length=0:=by
      have:=(List.getElem?_eq_some_iff.1 h').1;simp at this;omega
   rw[h0]at h';injection h' with h';subst h';rw[Maps.atKey_put_same h.tidy.isMap (isKey key),show i=KS.length by omega]
 ·rw[Maps.size_put h.tidy,h.WQ key hk,if_neg δ,h.size,List.length_append];rfl
def JX(w:World)(b n:Nat)(D:Dm):Prop:=w.ownsMap prog 9 (plainElem prog 3) b n D
theorem JX.kept{w w':World}{b n:Nat}{D:Dm}(h:JX w b n D)(hb:w'.heap[b]?=w.heap[b]?):JX w' b n D:=by
 obtain⟨es,clock,hh,r⟩:=h;exact⟨es,clock,hb.trans hh,r⟩
structure yM(t:QC):Prop where
 blk:∀w k,t.H w→t.b=some k→∃o,w.heap[k]?=some o∧∀c fz,o≠θ c 5 fz
 keep:∀w w',t.H w→(∀k,t.b=some k→w'.heap[k]?=w.heap[k]?)→t.H w'
theorem Ya{e:TypeId}{sz n:Nat}{v:Value}{xs:List Value}(he:e≠5):yM (Qb e sz v n xs):=by
 refine⟨fun w k h hk=>?_,fun w w' h hb=>?_⟩
 ·rcases(show w.ownsRow 0 e sz v n xs from h).2 with⟨rfl,_⟩|⟨g,cap,cur,rfl,_,hg,_⟩
  ·cases hk
  ·have hk:some g=some k:=hk;injection hk with hk;subst hk;exact⟨_,hg,fun c fz e'=>he (by injection e')⟩
 ·have h:w.ownsRow 0 e sz v n xs:=h;refine⟨h.1,?_⟩;rcases h.2 with h' |⟨g,cap,cur,rfl,h1,hg,r⟩
  ·exact .inl h'
  ·exact .inr ⟨g,cap,cur,rfl,h1,(hb g rfl).trans hg,r⟩
theorem Qu3{vs:List Value}{ks:List (List Nat)}:∀t∈VW vs ks,yM t:=by
 induction vs generalizing ks with
 |nil=>intro t h;cases h
 |cons v vs ih =>
  intro t h;cases ks with
  |nil=>cases h
  |cons l ks =>
   rcases List.mem_cons.1 h with rfl|h
   ·exact Ya δ
   ·exact ih t h
theorem Qx9{g:Nat}{vN vP vS vK:Value}{nN:Nat}{cN:List Value}{nP:Nat}{cP:List Value}{nS:Nat}{cS:List Value}{nK:Nat}{us vs:List Value}{ks:List (List Nat)}:∀t∈PR g vN vP vS vK nN cN nP cP nS cS nK us vs ks [],yM t:=by
 intro t h;unfold PR at h;simp only[List.append_nil,List.mem_cons]at h;rcases h with rfl|rfl|rfl|rfl|rfl|h
 ·exact Ya δ
 ·exact Ya δ
 ·exact Ya δ
 ·exact Ya δ
 ·exact Ya δ
 ·exact Qu3 t h
theorem Ų{w w':World}{B:Nat}{R:List QC}{v v':Value}{l l':List UInt8}(h:QH w B (Qb 5 1 v l.length (Lib.byteCells l)::R))(hR:∀t∈R,yM t)(hk:Kp B w w')(hv:Wd w' B v' l'):QH w' B (Qb 5 1 v' l'.length (Lib.byteCells l')::R):=by
 have keep:∀t∈R,t.H w'∧∀k,t.b=some k→w'.heap[k]? = w.heap[k]? := fun t ht=>by
  have hH:=h.h t (List.mem_cons_of_mem _ ht)
  have hb:∀k,t.b=some k→w'.heap[k]? = w.heap[k]? := fun k hk'=>by
   obtain⟨o,ho,hne⟩:=(hR t ht).blk w k hH hk';rw[ho];exact hk.block ho hne
  exact⟨(hR t ht).keep w w' hH hb,hb⟩
 refine⟨fun t ht=>?_,fun t ht k hk'=>?_,?_,QW h.B hk.QF.size⟩
 ·rcases List.mem_cons.1 ht with rfl|ht
  ·show w'.ownsRow 0 _ _ _ _ _;exact ĵ hv
  ·exact(keep t ht).1
 ·rcases List.mem_cons.1 ht with rfl|ht
  ·exact(hv.lt k hk').1
  ·exact h.ge t (List.mem_cons_of_mem _ ht) k hk'
 ·rw[List.pairwise_cons];refine⟨fun t ht=>?_,(List.pairwise_cons.1 h.ap).2⟩;show v'.ownBlock=none∨v'.ownBlock≠t.b;cases hvb:v'.ownBlock with
  |none=>exact .inl rfl
  |some g =>
   right
   intro e;obtain⟨o,ho,hne⟩:=(hR t ht).blk w' g (keep t ht).1 e.symm;obtain⟨c,fz,hc⟩:=Lib.ownsRow_kind hv g hvb;rw[hc]at ho;exact hne c fz (Option.some.inj ho).symm
theorem bP{w:World}{B:Nat}{R:List QC}{v:Value}{l:List UInt8}(h:QH w B (Qb 5 1 v l.length (Lib.byteCells l)::R)):Wd w B v l:=Þ (h.get (i:=0) rfl) fun k hk=>h.ge _ List.mem_cons_self k hk
theorem Qxi{w:World}{B:Nat}{a:Option Addr}{n c:Nat}{l:List UInt8}(h:Wd w B (ς a n c) l)(hB:B≤w.heap.size):Wd w B (ς a 0 c) []:=by
 refine⟨rfl,?_⟩;rcases h.2 with⟨e,h0⟩|⟨g,cap,cur,e,h1,hg,h2,h3,h4,_⟩
 ·injection e with e1 e2 e3;subst e1;subst e3;exact .inl ⟨rfl,rfl⟩
 ·injection e with e1 e2 e3;subst e1;subst e3;exact .inr ⟨g,c,cur,rfl,h1,hg,Nat.zero_le _,h3,h4,rfl⟩
theorem Qwp{w:World}{B:Nat}{v:Value}{l:List UInt8}(h:Wd w B v l):(convert 103 9 v).run prog w=.ok (.string ⟨l.toArray⟩) w:=by
 rcases h.2 with⟨rfl,h0⟩|⟨g,cap,cur,rfl,_,hg,h3,h4,h5,h6⟩
 ·obtain rfl:l=[]:=List.eq_nil_of_length_eq_zero h0;exact run_convert_bytes_nil w _ 5 underlying103 underlying5 0 0 _ underlying9
 ·refine run_convert_bytes_back w _ _ 5 ⟨g,0,none⟩ cap l underlying103 underlying5 underlying9 fun j hj=>?_
  exact World.ownsRow.cells h (g:=g) rfl j _ (by simp[Lib.byteCells,List.getElem?_eq_getElem hj])
theorem QH.YK{w w':World}{B g:Nat}{R:List QC}(h:QH w B R)(hg:g<B)(hG:w.grownBy w' (some g)):QH w' B R :=
 ⟨fun t ht=>t.kept w _ (some g) (h.h t ht) hG (by cases hb:t.b with|none=>exact .inl rfl|some k=>exact .inr (by have:=h.ge t ht k hb;intro e;injection e with e;omega)),h.ge,h.ap,QW h.B hG.size⟩
theorem Gt{w w' w'':World}{g B:Nat}(h:w.grownBy w' (some g))(hB:w.heap.size≤B)(hb:Below B w' w''):w.grownBy w'' (some g) :=
 ⟨hb.os.trans h.os,hb.tape.trans h.tape,hb.output.trans h.output,QW h.size hb.size,fun k hk hne=>(hb.block k (Nat.lt_of_lt_of_le hk hB)).trans (h.block k hk hne)⟩
theorem Qlq{w w' w'':World}{g:Nat}(h:w.grownBy w' (some g))(h':w'.grownBy w'' (some g)):w.grownBy w'' (some g) :=
 ⟨h'.os.trans h.os,h'.tape.trans h.tape,h'.output.trans h.output,QW h.size h'.size,fun k hk hne=>(h'.block k (Nat.lt_of_lt_of_le hk h.size) hne).trans (h.block k hk hne)⟩
