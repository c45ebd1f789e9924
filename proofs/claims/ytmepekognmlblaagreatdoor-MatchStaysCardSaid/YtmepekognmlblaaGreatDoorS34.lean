import Derived.Test.YtmepekognmlblaaGreatDoorS27
import Derived.Test.YtmepekognmlblaaGreatDoorS33
import Derived.Lib.AppendStr
import Derived.Lib.OwnKind
import Derived.Lib.ItoaLen
set_option maxHeartbeats 16000000
set_option maxRecDepth 100000
set_option linter.unusedVariables false
open Go.ChangeShapes Go.WideShapes Go.ChangeAt Go.RowKit Go.Proofs.Tryz
open _root_.List renaming getElem?_map→VP,getElem?_eq_none→YP,length_map→VD,length_append→ZU
open Go.Lib renaming hid→QA
open _root_.Nat renaming le_trans→QW,lt_of_lt_of_le→VE
open Go.Value renaming string→σ,int→ι,slice→ς,pointer→π,bool→τ,agg→ξ
open Go.IntKind renaming i64→γ
open Go.Obj renaming cells→θ
open Go.Ending renaming returned→ρ
namespace Go.Proofs.YtmepekognmlblaaGreatDoor
namespace Match
open Mem Tree Shape
def zE(d:Nat→Nat)(j x:Nat):Nat→Nat:=fun i=>if i=j then x else d i
theorem Qqk(d:Nat→Nat)(j x:Nat):zE d j x j=x:=by unfold zE;rw[if_pos rfl]
theorem Qxo(d:Nat→Nat){i j:Nat}(x:Nat)(h:i≠j):zE d j x i=d i:=by unfold zE;rw[if_neg h]
def dV(n:Nat)(d:Nat→Nat)(r:List Value):List Value:=(List.range n).map (fun k=>ι γ (d k:Int))++r
theorem Qz4{n i:Nat}(d:Nat→Nat)(r:List Value)(h:i<n):(dV n d r)[i]?=some (ι γ (d i:Int)):=by
 unfold dV;rw[List.getElem?_append_left (by rw[VD,List.length_range];exact h),VP,List.getElem?_range h];rfl
theorem Qy8(n:Nat)(d:Nat→Nat)(r:List Value):n≤(dV n d r).length:=by
 unfold dV;rw[List.length_append,VD,List.length_range];omega
theorem Qy7{n i:Nat}(d:Nat→Nat)(r:List Value)(h:i<n)(x:Nat):(dV n d r).set i (ι γ (x:Int))=dV n (zE d i x) r:=by
 unfold dV;rw[List.set_append_left _ _ (by rw[VD,List.length_range];exact h)]
 congr 1
 apply List.ext_getElem?;intro k;rw[List.getElem?_set,VD,List.length_range];by_cases hk:k<n
 ·rw[VP,VP,List.getElem?_range hk];by_cases e:i=k
  ·subst e;rw[if_pos rfl,if_pos h];simp[Qqk]
  ·rw[if_neg e];simp[Qxo d x (fun h=>e h.symm)]
 ·rw[if_neg ω,YP (by rw[VD,List.length_range];omega),YP (by rw[VD,List.length_range];omega)]
abbrev ZP(W:World)(g n:Nat)(d:Nat→Nat)(r:List Value):Prop:=ZY W g 3 (dV n d r)
section
variable {w W:World}{g n:Nat}{d:Nat→Nat}{r:List Value}
theorem ZP.cell(h:ZP W g n d r){i:Nat}(hi:i<n):W.cell? ⟨g,i,none⟩=some (ι γ (d i:Int))∧W.frozen? ⟨g,i,none⟩=false:=⟨ZY.at_ h (Qz4 d r hi),ZY.free h i⟩
theorem ZP.put(h:ZP W g n d r){i:Nat}(hi:i<n)(x:Nat):ZP (W.setCell ⟨g,i,none⟩ (ι γ (x:Int))) g n (zE d i x) r:=by
 have:=ZY.set h (i:=i) (Nat.lt_of_lt_of_le hi (Qy8 n d r)) (ι γ (x:Int));rw[Qy7 d r hi]at this;exact this
theorem ZP.swap(h:ZP W g n d r){i j:Nat}(hi:i<n)(hj:j<n):ZP ((W.setCell ⟨g,i,none⟩ (ι γ (d j:Int))).setCell ⟨g,j,none⟩ (ι γ (d i:Int))) g n (sw d i j) r :=
 (h.put hi (d j)).put hj (d i)
theorem Um(W:World)(g i j:Nat)(x y:Value):QB g g W ((W.setCell ⟨g,i,none⟩ x).setCell ⟨g,j,none⟩ y):=(rL g i x (.inl rfl)).trans (rL g j y (.inl rfl))
end
def yu(w:World)(g n:Nat)(d:Nat→Nat)(r:List Value)(e:Ending)(w':World):Prop:=e=ρ (.tuple #[])∧QB g g w w'∧ZP w' g n d r
theorem X5{w:World}{g n:Nat}{d:Nat→Nat}{r:List Value}(h:ZP w g n d r)(C a b m:Nat)(cmp:Value)(hab:a+m≤b)(hb:b+m≤n)(hn:n≤1000000) :
 Calls Tryz.prog 146 #[ς (some ⟨g,0,none⟩) n C,ι γ (a:Int),ι γ (b:Int),ι γ (m:Int),cmp] w (yu w g n (YD d a b m) r):=by
 have HD:Hid (QB g g w w∧ZP w g n (YD d a b 0) r):=⟨QB.refl g g w,by rw[Qqw];exact h⟩;clear h;go_enter Tryz.func146,Tryz.ntmps146;go_wp2
 go_loopw [10] (fun JQ wr=>∃i:Nat,i≤m∧JQ=ι γ (i:Int)∧Hid (QB g g w wr∧ZP wr g n (YD d a b i) r)) (fun s _=>m-(intOf s).toNat)
 case atStart=>exact⟨0,Nat.zero_le _,rfl,HD⟩
 case round =>
  clear HD;obtain⟨i,hi,rfl,HD⟩:=hrel;by_cases hlt:i<m
  ·have hlt':(i:Int)<(m:Int):=ω
   obtain⟨ai,hai⟩:=Mem.QD (a+i);obtain⟨bi,I7⟩:=Mem.QD (b+i);obtain⟨p1,f1⟩:=HD.out.2.cell (i:=ai) ω;obtain⟨p2,f2⟩:=HD.out.2.cell (i:=bi) ω;have HN:Hid (∀q,QB g g w (((wr.setCell ⟨g,ai,none⟩ (ι γ (YD d a b i bi:Int))).setCell ⟨g,bi,none⟩ (ι γ (YD d a b i ai:Int))).drewN q)∧ZP (((wr.setCell ⟨g,ai,none⟩ (ι γ (YD d a b i bi:Int))).setCell ⟨g,bi,none⟩ (ι γ (YD d a b i ai:Int))).drewN q) g n (YD d a b (i+1)) r):=by intro q;refine⟨(HD.out.1.trans (Um _ _ _ _ _ _)).trans (QB.drewN _ q),?_⟩;rw[Qqx d hab hlt,hai,I7];exact HD.out.2.swap (W:=wr) ω ω
   generalize YD d a b i ai=x at *;generalize YD d a b i bi=y at *;have w1:IntKind.i64.wrap ((a:Int)+(i:Int))=(ai:Int):=by rw[IntKind.wrap_i64];omega
   have w2:IntKind.i64.wrap ((b:Int)+(i:Int))=(bi:Int):=by rw[IntKind.wrap_i64];omega
   have t1:(0:Int)≤(ai:Int):=ω
   have t2:(ai:Int)<(n:Int):=ω
   have t3:(0:Int)≤(bi:Int):=ω
   have t4:(bi:Int)<(n:Int):=ω
   have n1:bi≠ai:=ω
   have hm:m≤1000000:=ω
   have n2:ai≠bi:=ω
   have XW:=Lib.hid hlt;clear HD hai I7 hlt hab hb;go_wp2
   go_region
   go_wp2
   go_roundw
   case rel=>exact⟨i+1,by have:=XW.out;omega,by go_num,HN.out _⟩
   case measure=>have:=XW.out;simp[intOf];omega
  ·obtain rfl:i=m:=ω
   have hlt':¬(i:Int)<(i:Int):=ω
   go_wp2
   go_end0
   exact⟨rfl,HD.out.1,HD.out.2⟩
theorem Qkr{w:World}{g n:Nat}{d:Nat→Nat}{r:List Value}(h:ZP w g n d r)(C a m b:Nat)(cmp:Value)(vg:a<m)(hmb:m<b)(hb:b≤n)(hn:n≤1000000) :
 Calls prog 138 #[ς (some ⟨g,0,none⟩) n C,ι γ (a:Int),ι γ (m:Int),ι γ (b:Int),cmp] w (yu w g n (Qx d a m b) r):=by
 obtain⟨i0,hi0⟩:=Mem.QD (m-a);obtain⟨j0,Mf⟩:=Mem.QD (b-m);have HD:Hid ((QB g g w w∧ZP w g n d r)∧Qx d a m b=Qx d (m-i0) m (m+j0)):=⟨⟨QB.refl g g w,h⟩,by rw[show m-i0=a by omega,show m+j0=b by omega]⟩;have w1:IntKind.i64.wrap ((m:Int)-(a:Int))=(i0:Int):=by rw[IntKind.wrap_i64];omega
 have w2:IntKind.i64.wrap ((b:Int)-(m:Int))=(j0:Int):=by rw[IntKind.wrap_i64];omega
 have hi1:0<i0:=ω
 have hi2:i0≤m:=ω
 have TI:0<j0:=ω
 have Tb:m+j0≤n:=ω
 have hm:m≤1000000:=ω
 generalize Qx d a m b=R at *;clear h hi0 Mf vg hmb hb;go_enter func138,ntmps138;go_wp2;clear w1 w2
 go_loopw [10,11] (fun JQ GA wr=>∃(i j:Nat)(d':Nat→Nat),(0<i∧i≤m∧0<j∧m+j≤n)∧JQ=ι γ (i:Int)∧GA=ι γ (j:Int)∧Hid ((QB g g w wr∧ZP wr g n d' r)∧R=Qx d' (m-i) m (m+j))) (fun s t _=>(intOf s).toNat+(intOf t).toNat)
 case atStart=>exact⟨i0,j0,d,⟨hi1,hi2,TI,Tb⟩,rfl,rfl,HD⟩
 case round =>
  clear HD hi1 hi2 TI Tb;obtain⟨i,j,d',⟨hi1,hi2,TI,Tb⟩,rfl,rfl,HD⟩:=hrel;obtain⟨mi,Wp⟩:=Mem.QD (m-i);have w1:IntKind.i64.wrap ((m:Int)-(i:Int))=(mi:Int):=by rw[IntKind.wrap_i64];omega
  by_cases hij:i=j
  ·subst hij;have hne:((i:Int) != (i:Int))=false:=ψ
   have yY:Hid (Calls prog 146 #[ς (some ⟨g,0,none⟩) n C,ι γ (mi:Int),ι γ (m:Int),ι γ (i:Int),cmp] wr (yu wr g n R r)):=by have:=X5 HD.out.1.2 C mi m i cmp ω ω hn;rw[HD.out.2,Qxz d' hi2,Wp];exact this
   clear Wp;go_wp2_with fail;refine yY.out.mono ?_;rintro e w9 ⟨rfl,ht,hd⟩;have HT:=Lib.hid (HD.out.1.1.trans ht);have SH:=Lib.hid hd;clear ht hd;go_wp2
   go_end0
   exact⟨rfl,HT.out,SH.out⟩
  ·have hne:((i:Int) != (j:Int))=true:=by simp;omega
   by_cases hgt:j<i
   ·have WB:(j:Int)<(i:Int):=ω
    obtain⟨k,hk⟩:=Mem.QD (i-j);have w2:IntKind.i64.wrap ((i:Int)-(j:Int))=(k:Int):=by rw[IntKind.wrap_i64];omega
    have yY:Hid (Calls prog 146 #[ς (some ⟨g,0,none⟩) n C,ι γ (mi:Int),ι γ (m:Int),ι γ (j:Int),cmp] wr (yu wr g n (YD d' mi m j) r)):=X5 HD.out.1.2 C mi m j cmp ω ω hn;have HR:Hid (R=Qx (YD d' mi m j) (m-k) m (m+j)):=by show _=_;rw[HD.out.2,Qxy d' hi2 hgt,Wp,show mi+j=m-k by omega]
    have HK:Hid ((0<k∧k≤m)∧k<i):=⟨⟨ω,ω⟩,ω⟩;clear Wp hk hne hij;have hne:((i:Int) != (j:Int))=true:=by simp;omega
    go_wp2_with fail;refine yY.out.mono ?_;rintro e w9 ⟨rfl,ht,hd⟩;have SH:Hid ((QB g g w w9∧ZP w9 g n (YD d' mi m j) r)∧R=Qx (YD d' mi m j) (m-k) m (m+j)):=⟨⟨HD.out.1.1.trans ht,hd⟩,HR.out⟩;clear ht hd HD;go_wp2
    go_roundw
    case rel=>exact⟨k,j,_,⟨HK.out.1.1,HK.out.1.2,TI,Tb⟩,rfl,rfl,SH⟩
    case measure=>have:=HK.out.2;simp[intOf];omega
   ·have WB:¬(j:Int)<(i:Int):=ω
    obtain⟨k,hk⟩:=Mem.QD (j-i);obtain⟨mj,F6⟩:=Mem.QD (m+j);obtain⟨mk,hmk⟩:=Mem.QD (mj-i);have w2:IntKind.i64.wrap ((j:Int)-(i:Int))=(k:Int):=by rw[IntKind.wrap_i64];omega
    have w3:IntKind.i64.wrap ((m:Int)+(j:Int))=(mj:Int):=by rw[IntKind.wrap_i64];omega
    have w4:IntKind.i64.wrap ((mj:Int)-(i:Int))=(mk:Int):=by rw[IntKind.wrap_i64];omega
    have yY:Hid (Calls prog 146 #[ς (some ⟨g,0,none⟩) n C,ι γ (mi:Int),ι γ (mk:Int),ι γ (i:Int),cmp] wr (yu wr g n (YD d' mi mk i) r)):=X5 HD.out.1.2 C mi mk i cmp ω ω hn;have HR:Hid (R=Qx (YD d' mi mk i) (m-i) m (m+k)):=by show _=_;rw[HD.out.2,Qxx d' hi2 ω,Wp,F6,hmk,hk]
    have HK:Hid ((0<k∧m+k≤n)∧k<j):=⟨⟨ω,ω⟩,ω⟩;clear Wp hk F6 hmk hij;go_wp2_with fail;refine yY.out.mono ?_;rintro e w9 ⟨rfl,ht,hd⟩;have SH:Hid ((QB g g w w9∧ZP w9 g n (YD d' mi mk i) r)∧R=Qx (YD d' mi mk i) (m-i) m (m+k)):=⟨⟨HD.out.1.1.trans ht,hd⟩,HR.out⟩;clear ht hd HD;go_wp2
    go_roundw
    case rel=>exact⟨i,k,_,⟨hi1,hi2,HK.out.1.1,HK.out.1.2⟩,rfl,rfl,SH⟩
    case measure=>have:=HK.out.2;simp[intOf];omega
def Uf(w:World)(g gf:Nat)(caps:Array Value)(z:Nat→Nat)(K:Nat):Prop :=
 Vp gf∧∀W,QB g g w W→∀x y:Nat,x<K→y<K→Calls prog gf (#[ι γ (x:Int),ι γ (y:Int)]++caps) W fun e W'=>e=ρ (ι γ ((z y:Int)-(z x:Int)))∧∃q,W'=W.drewN q
theorem Uf.turn{w w':World}{g gf:Nat}{caps:Array Value}{z:Nat→Nat}{K:Nat}(h:Uf w g gf caps z K)(ht:QB g g w w'):Uf w' g gf caps z K:=⟨h.1,fun W hW=>h.2 W (ht.trans hW)⟩
theorem Pm.bound{a b n K:Nat}{d d':Nat→Nat}(h:Pm a b d d')(hb:b≤n)(hK:∀i,i<n→d i<K):∀i,i<n→d' i<K:=by
 intro i hi;by_cases c:i<a∨b≤i
 ·rw[h.out c];exact hK i hi
 ·obtain⟨k,_,h2,h3⟩:=h.of (k:=i) ω ω;rw[h3];exact hK k ω
def Xn(w:World)(g n:Nat)(r:List Value)(z d:Nat→Nat)(a b:Nat)(e:Ending)(w':World):Prop :=
 e=ρ (.tuple #[])∧QB g g w w'∧∃d',ZP w' g n d' r∧Pm a b d d'∧SO z d' a b
theorem X0{w:World}{g n gf K:Nat}{caps:Array Value}{z d:Nat→Nat}{r:List Value}(h:ZP w g n d r)(hc:Uf w g gf caps z K)(hK:∀i,i<n→d i<K)(hz:∀x,z x≤1000000)(C a b:Nat)(hab:a≤b)(hb:b≤n)(hn:n≤1000000)(hr:∀p q,a≤p→p<q→q<b→d p<d q) :
 Calls prog 128 #[ς (some ⟨g,0,none⟩) n C,ι γ (a:Int),ι γ (b:Int),.func (.func gf) #[] caps] w (Xn w g n r z d a b):=by
 have HC:=Lib.hid hc;have HK:=Lib.hid hK;have HZ:=Lib.hid hz;have eg:=hc.1;unfold Vp at eg;obtain⟨a1,ha1⟩:=Mem.QD (a+1);have w1:IntKind.i64.wrap ((a:Int)+1)=(a1:Int):=by rw[IntKind.wrap_i64];omega
 have HD:Hid ((QB g g w w∧ZP w g n d r∧Pm a b d d)∧SO z d a a1∧∀p q,a≤p→p<q→a1≤q→q<b→d p<d q):=⟨⟨QB.refl g g w,h,Pm.refl a b d⟩,SO.one z d ω,fun p q h1 h2 _ h4=>hr p q h1 h2 h4⟩;have ha2:a<a1:=ω
 have I9:a1≤b∨a1=a+1:=ω
 clear h hc hK hz hr;go_enter func128,ntmps128;go_wp2;clear w1
 go_loopw [8] (fun s8 wr=>∃(i:Nat)(d':Nat→Nat),(a<i∧(i≤b∨i=a+1))∧s8=ι γ (i:Int)∧Hid ((QB g g w wr∧ZP wr g n d' r∧Pm a b d d')∧SO z d' a i∧∀p q,a≤p→p<q→i≤q→q<b→d' p<d' q)) (fun s _=>b+1-(intOf s).toNat)
 case atStart=>exact⟨a1,d,⟨ha2,I9⟩,rfl,HD⟩
 case round =>
  clear HD ha2 I9 ha1;obtain⟨i,d',⟨hi1,hi2⟩,rfl,HD⟩:=hrel;by_cases hib:i<b
  ·have cf:(i:Int)<(b:Int):=ω
   have XA:Hid ((QB g g w wr∧ZP wr g n d' r∧Pm a b d d')∧DM z d' a b i i):=⟨HD.out.1,DM.start HD.out.2.1 HD.out.2.2 hib⟩;clear HD hi2;go_wp2
   go_loopw [9] (fun s9 wr=>∃(j:Nat)(d':Nat→Nat),(a≤j∧j≤i)∧s9=ι γ (j:Int)∧Hid ((QB g g w wr∧ZP wr g n d' r∧Pm a b d d')∧DM z d' a b i j)) (fun s _=>(intOf s).toNat)
   case atStart=>exact⟨i,d',⟨ω,Nat.le_refl _⟩,rfl,XA⟩
   case round =>
    clear XA;obtain⟨j,d',⟨TI,Tb⟩,rfl,XA⟩:=hrel;by_cases hja:a<j
    ·have mX:(a:Int)<(j:Int):=ω
     obtain⟨k,hj⟩:∃k,k+1=j:=⟨j-1,ω⟩;have HB:=XA.out.1.2.2.bound hb HK.out;obtain⟨p1,f1⟩:=XA.out.1.2.1.cell (i:=j) ω;obtain⟨p2,f2⟩:=XA.out.1.2.1.cell (i:=k) ω;have Pv:Hid (∀q,Calls prog gf (#[ι γ (d' j:Int),ι γ (d' k:Int)]++caps) (wr.drewN q) fun e W'=>e=ρ (ι γ ((z (d' k):Int)-(z (d' j):Int)))∧∃q',W'=(wr.drewN q).drewN q'):=fun q=>HC.out.2 _ (XA.out.1.1.trans (QB.drewN wr q)) _ _ (HB j ω) (HB k ω)
     obtain⟨c,hc⟩:∃c:Int,(z (d' k):Int)-(z (d' j):Int)=c:=⟨_,rfl⟩;rw[hc]at Pv;have hz1:=HZ.out (d' k);have hz2:=HZ.out (d' j);have w1:IntKind.i64.wrap ((j:Int)-1)=(k:Int):=by rw[IntKind.wrap_i64];omega
     have t1:(0:Int)≤(k:Int):=ω
     have t2:(k:Int)<(n:Int):=ω
     have t3:(0:Int)≤(j:Int):=ω
     have t4:(j:Int)<(n:Int):=ω
     have n1:j≠k:=ω
     have n2:k≠j:=ω
     by_cases hlt:c<0
     ·have HN:Hid (∀q,((QB g g w (((wr.drewN q).setCell ⟨g,j,none⟩ (ι γ (d' k:Int))).setCell ⟨g,k,none⟩ (ι γ (d' j:Int)))∧ZP (((wr.drewN q).setCell ⟨g,j,none⟩ (ι γ (d' k:Int))).setCell ⟨g,k,none⟩ (ι γ (d' j:Int))) g n (sw d' j k) r∧Pm a b d (sw d' j k)))∧DM z (sw d' j k) a b i k):=by
       intro q;refine⟨⟨(XA.out.1.1.trans (QB.drewN wr q)).trans (Um _ _ _ _ _ _),ZP.swap (W:=wr.drewN q) XA.out.1.2.1 ω ω,XA.out.1.2.2.trans (Pm.sw d' ω ω ω ω)⟩,?_⟩;have h5:=XA.out.2;have h6:z (d' k)<z (d' j):=ω
       rw[←hj]at h5 h6⊢;exact h5.step ω ω h6
      have HJ:Hid ((a≤k∧k≤i)∧k<j):=⟨⟨ω,ω⟩,ω⟩;generalize d' j=x at *;generalize d' k=y at *;clear XA HB hj hz1 hz2 hc;go_wp2
      go_quiet ((refine(Pv.out _).mono ?_;rintro e w9 ⟨he,m9,JC⟩;exact⟨he,_,by rw[JC,World.drewN_drewN]⟩))
      go_wp2
      go_region
      go_wp2
      go_roundw
      case rel=>exact⟨k,_,HJ.out.1,rfl,HN.out _⟩
      case measure=>have:=HJ.out.2;simp[intOf];omega
     ·have HN:Hid (∀q,(QB g g w (wr.drewN q)∧ZP (wr.drewN q) g n d' r∧Pm a b d d')∧SO z d' a (i+1)∧∀p q,a≤p→p<q→i+1≤q→q<b→d' p<d' q):=fun q=>⟨⟨XA.out.1.1.trans (QB.drewN wr q),XA.out.1.2.1,XA.out.1.2.2⟩,XA.out.2.stop TI Tb (.inr (by rw[show j-1=k by omega];omega)),fun p q h1 h2 h3 h4=>XA.out.2.rs p q h1 h2 h3 h4⟩
      have HJ:Hid (a<i+1∧(i+1≤b∨i+1=a+1)):=⟨ω,.inl ω⟩;generalize d' j=x at *;generalize d' k=y at *;clear XA HB hj hz1 hz2 hc;go_wp2
      go_quiet ((refine(Pv.out _).mono ?_;rintro e w9 ⟨he,m9,JC⟩;exact⟨he,_,by rw[JC,World.drewN_drewN]⟩))
      go_wp2
      go_roundw
      case rel=>exact⟨i+1,d',HJ.out,by go_num,HN.out _⟩
      case measure=>simp[intOf];omega
    ·obtain rfl:j=a:=ω
     have mX:¬(j:Int)<(j:Int):=ω
     have HN:Hid (∀q,(QB g g w (wr.drewN q)∧ZP (wr.drewN q) g n d' r∧Pm j b d d')∧SO z d' j (i+1)∧∀p q,j≤p→p<q→i+1≤q→q<b→d' p<d' q):=fun q=>⟨⟨XA.out.1.1.trans (QB.drewN wr q),XA.out.1.2.1,XA.out.1.2.2⟩,XA.out.2.stop TI Tb (.inl rfl),fun p q h1 h2 h3 h4=>XA.out.2.rs p q h1 h2 h3 h4⟩
     have HJ:Hid (j<i+1∧(i+1≤b∨i+1=j+1)):=⟨ω,.inl ω⟩;clear XA;go_wp2
     go_quiet (fail)
     go_wp2
     go_roundw
     case rel=>exact⟨i+1,d',HJ.out,by go_num,HN.out _⟩
     case measure=>simp[intOf];omega
  ·have cf:¬(i:Int)<(b:Int):=ω
   have HE:Hid (SO z d' a b):=HD.out.2.1.mono (Nat.le_refl _) ω;go_wp2
   go_end0
   exact⟨rfl,HD.out.1.1,d',HD.out.1.2.1,HD.out.1.2.2,HE.out⟩
def bQ:F→Prop
 | .nil=>True
 | .cons k x y c r=>(-9223372036854775808≤k∧k≤9223372036854775807)∧bQ c∧bQ r
def pA(k:Int)(x y:ByteArray)(c:F):Prop:=x.size≤1000000∧y.size≤1000000∧Zp c∧bQ (one k x y c)
def SN(n:Nat):List P2:=(List.range n).map fun(i:Nat)=>((i:Int),(i:Int))
def Zy(T:F):List Int:=kinds (nodes T)
structure vJ(XF:World→Prop)(Rt:Int→ByteArray→ByteArray→F→Prop)(mt:F→F→List P2):Prop where
 keep:∀w w',XF w→Below w.heap.size w w'→XF w'
 of_:∀(k:Int)(x y:ByteArray)(A:Option Addr)(n C:Nat)(c:F)(k':Int)(x' y':ByteArray)(A':Option Addr)(n' C':Nat)(c':F)(w:World),XF w→Fs w (Lo w.heap.size) (ς A n C) c→Fs w (Lo w.heap.size) (ς A' n' C') c'→
  c.size≤20010→c'.size≤20010→pA k x y c→pA k' x' y' c'→
  Calls Tryz.prog 12 #[ξ #[ι γ k,σ x,σ y,ς A n C],ξ #[ι γ k',σ x',σ y',ς A' n' C']] w fun e w'=>Below w.heap.size w w'∧
   ∃v,e=ρ (.tuple #[v,ι γ (if 20000≤c.size∨20000≤c'.size then 2 else 0)])∧Qm w' (In w.heap.size w'.heap.size) v (mt (one k x y c) (one k' x' y' c'))
 tH:∀(k:Int)(x y:ByteArray)(A:Option Addr)(n C:Nat)(c:F)(k':Int)(x' y':ByteArray)(A':Option Addr)(n' C':Nat)(c':F)(Al:Option Addr)(Cl:Nat)(L:List P2)(w:World),XF w→Fs w (Lo w.heap.size) (ς A n C) c→Fs w (Lo w.heap.size) (ς A' n' C') c'→
  Qm w (Lo w.heap.size) (ς Al L.length Cl) L→c.size≤20010→c'.size≤20010→L.length≤100000→pA k x y c→pA k' x' y' c'→
  Calls Tryz.prog 21 #[ξ #[ι γ k,σ x,σ y,ς A n C],ξ #[ι γ k',σ x',σ y',ς A' n' C'],ς Al L.length Cl] w fun e w'=>e=ρ (τ (Z9 (Zy (one k x y c)) (Zy (one k' x' y' c')) L))∧Below w.heap.size w w'
 long:∀(k:Int)(x y:ByteArray)(c:F)(k':Int)(x' y':ByteArray)(c':F),20000≤c.size∨20000≤c'.size→mt (one k x y c) (one k' x' y' c')=[]
 tv:∀(k:Int)(x y:ByteArray)(c:F)(k':Int)(x' y':ByteArray)(c':F),k≠k'→mt (one k x y c) (one k' x' y' c')=[]
 is_:∀(k:Int)(x y:ByteArray)(c:F)(x' y':ByteArray)(c':F),c.size<20000→c'.size<20000→Z9 (Zy (one k x y c)) (Zy (one k x' y' c')) (mt (one k x y c) (one k x' y' c'))=true
 self:∀(k:Int)(x y:ByteArray)(c:F),c.size<20000→mt (one k x y c) (one k x y c)=SN (c.size+1)
 Q3g:∀(k:Int)(x y:ByteArray)(c:F)(x' y':ByteArray)(c':F),c.size<20000→c'.size<20000→Rt k x y c→Rt k x' y' c'→∀p∈Qwx c c',p∈mt (one k x y c) (one k x' y' c')∧
  ∀nd,(nodes (one k x y c))[p.1.toNat]?=some nd→(nodes (one k x' y' c'))[p.2.toNat]?=some nd→∀j:Nat,j<nd.c.size+1→(p.1+(j:Int),p.2+(j:Int))∈mt (one k x y c) (one k x' y' c')
theorem J6(w:World)(k:Int)(x y:ByteArray)(s:Value):∀W,Below (w.alloc (θ #[ι γ k,σ x,σ y,s] 24)).heap.size (w.alloc (θ #[ι γ k,σ x,σ y,s] 24)) W→
 W.cell? ⟨w.heap.size,0,none⟩=some (ι γ k)∧W.cell? ⟨w.heap.size,1,none⟩=some (σ x)∧W.cell? ⟨w.heap.size,2,none⟩=some (σ y)∧W.cell? ⟨w.heap.size,3,none⟩=some s:=fun W hW=>by
 have h:W.heap[w.heap.size]?=_:=(hW.block w.heap.size ψ).trans (heap_alloc_new w _);refine⟨?_,?_,?_,?_⟩ <;> simp[World.cell?,h]
def vq(k:Int)(x y:ByteArray)(c:F):Bool:=OB k x y c&&decide (c.size+1≤400)
theorem ĕ{k:Int}{x y:ByteArray}{c:F}(h:vq k x y c=true):c.size+1≤400∧x.size≤1000000∧y.size≤1000000∧Zp c:=by
 unfold vq at h;rw[Bool.and_eq_true,decide_eq_true_eq]at h;have hi:=Qy3 h.1;exact⟨h.2,by have:=hi.hx;omega,by have:=hi.hy;omega,hi.sm⟩
theorem ç(k:Int)(x y:ByteArray)(A:Option Addr)(n C:Nat)(c:F)(w:World)(hf:Fs w (Lo w.heap.size) (ς A n C) c) :
 Calls Tryz.prog 10 #[ξ #[ι γ k,σ x,σ y,ς A n C]] w fun e w'=>e=ρ (τ (vq k x y c))∧Below w.heap.size w w':=by
 have b1:=Qz w (θ #[ι γ k,σ x,σ y,ς A n C] 24);have HF:=Lib.hid (Qwh k x y A n C c _ (hf.later b1));have Z':=Lib.hid b1;have hq:=J6 w k x y (ς A n C)
 have HS:Hid (∀W,Below (w.alloc (θ #[ι γ k,σ x,σ y,ς A n C] 24)).heap.size (w.alloc (θ #[ι γ k,σ x,σ y,ς A n C] 24)) W→Calls Tryz.prog 16 #[ξ #[ι γ k,σ x,σ y,ς A n C],ι γ 401] W fun e w'=>e = ρ (ι γ ((min (c.size+1) 401:Nat):Int))∧Below W.heap.size W w'):=fun W hW =>
  Qbr k x y A n C c 401 W ((hf.later b1).later hW) ω ω
 have HV:Hid (vq k x y c=(OB k x y c&&decide (((min (c.size+1) 401:Nat):Int)≤400))):=by
  show _=_;unfold vq
  congr 1
  rw[decide_eq_decide];omega
 obtain⟨q0,q1,q2,q3⟩:=hq _ (Below.refl _ _);have HQ:=Lib.hid hq;generalize OB k x y c=fb at *;generalize min (c.size+1) 401=sz at *;clear hf b1 hq;go_enter Tryz.func10,Tryz.ntmps10;go_wp2_with fail;refine c₁ HF.out fun w1 hb=>?_;have XC:=VO Z' hb;have SA:=Lib.hid (HS.out w1 hb);obtain⟨p0,p1,p2,p3⟩:=HQ.out w1 hb;clear hb q0 q1 q2 q3 HF HS HQ;cases fb with
 |false=>go_wp2;go_ret;exact⟨by rw[HV.out];rfl,XC.out⟩
 |true=>go_wp2_with fail;refine c₁ SA.out fun w2 hb=>?_;have VG:=VO XC hb;clear hb p0 p1 p2 p3 SA;go_wp2;go_ret;exact⟨by rw[HV.out];rfl,VG.out⟩
end Match
namespace Shape
open Mem Tree
theorem Ŭ:(prog.info? 5).map (fun i=>(i.zero,i.size,i.bytes))=some (some (ι .u8 0),1,1):=χ
def OC (B:Nat) (w:World):Prop:=Lib.TabBelow prog B w "internal/strconv.uint64pow10" .u64 Lib.pow10Tab
theorem OC.on{B:Nat}{w w':World}(h:OC B w)(hb:Below B w w'):OC B w':=Lib.TabBelow.on h hb
def Wd(w:World)(B:Nat)(v:Value)(l:List UInt8):Prop:=w.ownsRow B 5 1 v l.length (Lib.byteCells l)
structure Kp(B:Nat)(w w':World):Prop where
 QF:Below B w w'
 eW:Lib.OthersKept 5 none w w'
theorem Kp.refl(B:Nat)(w:World):Kp B w w:=⟨Below.refl _ _,Lib.OthersKept.refl _ _ _⟩
theorem Kp.trans{B:Nat}{w w' w'':World}(h:Kp B w w')(h':Kp B w' w''):Kp B w w'':=⟨h.QF.trans h'.QF,h.eW.trans h'.eW⟩
theorem Kp.alloc{B:Nat}{w w':World}(h:Kp B w w')(hB:B≤w.heap.size)(o:Obj):Kp B w (w'.alloc o):=⟨h.QF.trans ((Qz w' o).mono (QW hB h.QF.size)),h.eW.alloc o⟩
theorem Kp.grown{B:Nat}{w w':World}{e:TypeId}{n:Nat}{v:Value}{xs:List Value}(hB:B≤w.heap.size)(ho:w.ownsRow B 5 1 v n xs)(hg:w.grownBy w' v.ownBlock):Kp B w w' :=
 ⟨⟨hg.os,hg.tape,hg.output,hg.size,fun k hk=>hg.block k (Nat.lt_of_lt_of_le hk hB) fun e=>by have:=(ho.lt k e.symm).1;omega⟩,(Lib.OthersKept.refl _ _ w).grown hg (Lib.ownsRow_kind ho)⟩
theorem Kp.block{B k:Nat}{w w':World}{o:Obj}(h:Kp B w w')(hk:w.heap[k]?=some o)(ho:∀c fz,o≠θ c 5 fz):w'.heap[k]?=some o:=h.eW k o hk ψ ho
theorem Yh(l m:List UInt8):Lib.byteCells (l++m)=Lib.byteCells l++Lib.byteCells m:=by simp[Lib.byteCells]
theorem Ev(z:Int)(hz0 : -9223372036854775808≤z)(hz1:z≤9223372036854775807)(v:Value)(l:List UInt8)(w:World)(B:Nat)(h:Wd w B v l)(hB:B≤w.heap.size)(hl:l.length≤1000000000)(hp:OC B w) :
 Calls prog 80 #[v,ι γ z] w fun e w'=>∃v',e=ρ v'∧Wd w' B v' (l++V3 z)∧Kp B w w':=by
 obtain⟨i0,hi0,hw0,hw1,hw2⟩:=info_parts Ŭ;have HA:=QA (Tryz.JI B l.length z hz0 hz1 v (Lib.byteCells l) w h hB ω hp);have hle:=Lib.itoa_length_le z hz0 hz1;have LH:=QA hle;have HL:=QA hl;have JP:=QA hB;obtain⟨a,c,rfl,_,_⟩:=Q0 h;clear hz0 hz1 h hp hle hl hB;go_enter func80,ntmps80;go_wp2_with fail;refine HA.out.mono ?_;rintro e w1 ⟨v1,rfl,XD,hb1,hk1⟩;obtain⟨a1,c1,rfl,_,_⟩:=Q0 XD;have OT:=QA XD;have Sl:Hid (Kp B w w1):=⟨hb1,hk1⟩;clear XD hb1 hk1 HA;go_wp2_with (at_builtin;refine wpList_append_own _ rfl _ _ 103 rfl B 5 i0 (ι .u8 0) 1 1 underlying103 hi0 hw0 hw1 hw2 rfl δ _ _ _ rfl (OT.out.alloc _) ⟨w1.heap.size,0,none⟩ 1 1 [ι .u8 32] rfl rfl (by intro j u' hj;match j,hj with|0,hj=>simp at hj;subst hj;simp[Addr.add]) (by intro u' hu';simp at hu';subst hu';rfl) (by have:=HL.out;have:=LH.out;unfold maxLen;omega) (by have:=HL.out;have:=LH.out;omega) (by have:=JP.out;have:=Sl.out.QF.size;simp;omega) ?_);intro v2 w2 EI hg2 _;have PT:B≤w1.heap.size:=QW JP.out Sl.out.QF.size;have JM:Hid (Wd w2 B v2 (l++V3 z)∧Kp B w w2):=by refine⟨?_,(Sl.out.alloc JP.out _).trans (Kp.grown (e:=5) (by simp;omega) (OT.out.alloc _) hg2)⟩;unfold Wd V3;rw[Yh l,Yh,ZU,ZU,←Nat.add_assoc];exact EI
 clear EI hg2;go_wp2;go_ret;exact⟨v2,rfl,JM.out⟩
def BN(x y:ByteArray)(i:Nat):List UInt8:=if i=0 then[]else if i=1 then NG x else NG x++NG y
theorem U1{w:World}{k:Nat}{cs:Array Value}{T:TypeId}(h:w.heap[k]?=some (θ cs T (0,0))){j:Nat}{u:Value}(hj:cs[j]?=some u):w.cell? ⟨k,j,none⟩=some u:=by
 simp[World.cell?,h,hj]
theorem Qgp(k:Int)(x y:ByteArray)(s:Value)(ZW : -9223372036854775808≤k)(hk1:k≤9223372036854775807)(hx:x.size≤1000000)(hy:y.size≤1000000)(v:Value)(l:List UInt8)(w:World)(B:Nat)(h:Wd w B v l)(hB:B≤w.heap.size)(hl:l.length≤100000000)(hp:OC B w)(hs:∃A n C,s=ς A n C) :
 Calls prog 79 #[v,ξ #[ι γ k,σ x,σ y,s]] w fun e w'=>∃v',e=ρ v'∧Wd w' B v' (l++ownB k x y)∧Kp B w w':=by
 obtain⟨As,ns,Cs,rfl⟩:=hs;obtain⟨i0,hi0,hw0,hw1,hw2⟩:=info_parts Ŭ;have hb0:=(Kp.refl B w).alloc hB (θ #[ι γ k,σ x,σ y,ς As ns Cs] 24);have h0:(w.alloc (θ #[ι γ k,σ x,σ y,ς As ns Cs] 24)).heap[w.heap.size]?=some (θ #[ι γ k,σ x,σ y,ς As ns Cs] 24 (0,0)):=heap_alloc_new w _;obtain⟨a,c,rfl,_,_⟩:=Q0 h;have HN:=QA (Ev k ZW hk1 _ l _ B (World.ownsRow.alloc h _) (QW hB hb0.QF.size) ω (hp.on hb0.QF));have hq0:=U1 h0 (j:=0) rfl;have JP:=QA hB;have HL:=QA hl;have HP:=QA hp;have EP:=QA hb0;have sK:=QA h0;have HX:=QA hx;have HY:=QA hy;have TU:Hid ((V3 k).length≤22):=by show _≤_;unfold V3;rw[ZU];have:=Lib.itoa_length_le k ZW hk1;simp;omega
 clear ZW hk1 hx hy h hB hl hp hb0 h0;go_enter func79,ntmps79;go_wp2_with fail;refine HN.out.mono ?_;rintro e w1 ⟨v1,rfl,XD,hk1⟩;obtain⟨l1,Lg⟩:=Mem.QD (l++V3 k);rw[Lg]at XD;have Bc:=QA Lg;obtain⟨a1,c1,rfl,_,_⟩:=Q0 XD;have Sl:=QA (EP.out.trans hk1);have h1:=hk1.block sK.out (by intro c fz e;injection e with _ e _;exact absurd e δ);obtain⟨q1,q2⟩:=(⟨U1 h1 (j:=1) rfl,U1 h1 (j:=2) rfl⟩:_∧_);have Z':Hid (B≤w1.heap.size):=QW JP.out Sl.out.QF.size;have BA:Hid (Wd (w1.alloc (θ #[σ x,σ y] 9)) B (ς a1 l1.length c1) l1):=World.ownsRow.alloc XD _;have sO:Hid (l1=l++V3 k++BN x y 0):=by show _=l++V3 k++[];rw[List.append_nil,Bc.out]
 have SF:=QA (Sl.out.alloc JP.out (θ #[σ x,σ y] 9));have XW:Hid ((w1.alloc (θ #[σ x,σ y] 9)).heap[w1.heap.size]?=some (θ #[σ x,σ y] 9 (0,0))):=heap_alloc_new w1 _;clear XD hk1 h1 Lg HN EP sK Sl;go_wp2;clear q1 q2;obtain⟨gl,hgl⟩:=Mem.QD (w1.heap.size);have uQ:=QA hgl;rw[hgl]at XW;try rw[hgl]
 obtain⟨w2,hw2⟩:=Mem.QD (w1.alloc (θ #[σ x,σ y] 9));rw[hw2]at BA SF XW;try rw[hw2]
 clear hw2 hgl
 go_loopw [0,17] (fun s0 SK wr=>∃(i:Nat)(v:Value)(lw:List UInt8),i≤2∧s0=v∧SK=ι γ (i:Int)∧Hid (lw=l++V3 k++BN x y i)∧Hid (Wd wr B v lw)∧Hid (Kp B w2 wr)) (fun _ s _=>2-(intOf s).toNat)
 case atStart=>exact⟨0,_,l1,δ,rfl,rfl,sO.out,BA.out,Kp.refl _ _⟩
 case round =>
  clear BA;obtain⟨i,v,lw,hi,rfl,rfl,Rq,HW,HK⟩:=hrel;obtain⟨a3,c3,rfl,_,_⟩:=Q0 HW.out;by_cases hlt:i<2
  ·have hlt':(i:Int)<2:=ω
   have xg:(0:Int)≤(i:Int):=ω
   obtain⟨tt,ht1,ht2,JY⟩:∃tt:ByteArray,(#[σ x,σ y]:Array Value)[i]?=some (σ tt)∧tt.size≤1000000∧BN x y (i+1)=BN x y i++NG tt:=by
    have RY:i=0∨i=1:=ω
    rcases RY with rfl|rfl
    ·exact⟨x,rfl,HX.out,by simp[BN]⟩
    ·exact⟨y,rfl,HY.out,by simp[BN]⟩
   have hlb:=HK.out.block XW.out (by intro c fz e;injection e with _ e _;exact absurd e δ);have hc:=U1 hlb ht1;have hsz:((tt.size:Nat):Int)≤9223372036854775807:=ω
   have hlen:lw.length≤200000000:=by
    rw[Rq.out]
    have hnn:∀z:ByteArray,z.size≤1000000→(NG z).length≤1000022:=fun z hz=>by
     unfold NG V3;have e:z.data.toList.length=z.size:=Array.length_toList;have:=Lib.itoa_length_le (z.size:Int) ω ω;rw[ZU,ZU,e];simp only[List.length_cons,List.length_nil];omega
    rw[ZU,ZU];have h1:=TU.out;have h2:=HL.out;have h3:=hnn x HX.out;have h4:=hnn y HY.out;unfold BN;split
    ·simp;omega
    ·split
     ·omega
     ·rw[ZU];omega
   have EO:Hid (OC B wr):=(HP.out.on SF.out.QF).on HK.out.QF;have hBr:B≤wr.heap.size:=QW (QW JP.out SF.out.QF.size) HK.out.QF.size;have HN:=QA (Ev (tt.size:Int) ω hsz _ _ wr B HW.out hBr ω EO.out);have J':=QA hlen;have OL:=QA JY;have HTS:=QA ht2;have HI:=QA hlt;have rY:Hid ((V3 (tt.size:Int)).length≤22):=by show _≤_;unfold V3;rw[ZU];have:=Lib.itoa_length_le (tt.size:Int) ω hsz;simp;omega
   clear ht1 ht2 JY hlb hlen hlt;go_wp2_with fail;refine HN.out.mono ?_;rintro e w3 ⟨v3,rfl,UY,hk3⟩;obtain⟨l4,hl4⟩:=Mem.QD (lw++V3 (tt.size:Int));rw[hl4]at UY;have Bb:=QA hl4;have kW:l4.length≤200000022:=by rw[←hl4,ZU];have:=J'.out;have:=rY.out;omega
   have uH:=QA kW;obtain⟨a4,c4,rfl,_,_⟩:=Q0 UY;have vZ:=QA UY;have jl:=QA hk3;clear UY hk3 HN hc hl4 kW;go_wp2_with (at_builtin;refine Lib.wpList_append_own_string _ rfl _ _ 103 9 rfl B 5 i0 underlying103 underlying9 hi0 hw0 hw1 hw2 _ _ _ rfl vZ.out tt rfl (by have:=uH.out;have:=HTS.out;unfold maxLen;omega) (by have:=uH.out;have:=HTS.out;omega) (QW hBr jl.out.QF.size) ?_);intro v5 w5 CG Bq _;have Oh:=Kp.grown (e:=5) (QW hBr jl.out.QF.size) vZ.out Bq;have jk:=QA ((HK.out.trans jl.out).trans Oh);have oX:Hid (Wd w5 B v5 (l4++tt.data.toList)):=by show w5.ownsRow _ _ _ _ _ _;rw[Yh,ZU,Array.length_toList];exact CG
   have HE5:Hid (l4++tt.data.toList=l++V3 k++BN x y (i+1)):=by show _=_;rw[OL.out,←Bb.out,Rq.out];simp[NG]
   clear CG Bq Oh;go_wp2
   go_roundw
   case rel=>exact⟨i+1,v5,_,by have:=HI.out;omega,rfl,by go_num,HE5.out,oX.out,jk.out⟩
   case measure=>have:=HI.out;simp[intOf];omega
  ·obtain rfl:i=2:=ω
   have JM:Hid (Wd wr B (ς a3 lw.length c3) (l++ownB k x y)∧Kp B w wr):=by
    refine⟨?_,SF.out.trans HK.out⟩;have h:=HW.out;have e:lw=l++ownB k x y:=by rw[Rq.out];simp[BN,ownB]
    rw[←e];exact h
   clear HW HK hlt;go_wp2;go_ret;exact⟨_,rfl,JM.out⟩
end Shape
namespace Tree
open Mem
def UB:F→List Nd
 | .nil=>[]
 | .cons k x y c _=>⟨k,x,y,c⟩::UB c
def Te:F→List Nd
 | .nil=>[]
 | .cons _ _ _ c r=>Te c++nodes r
theorem Y3:∀c:F,nodes c=UB c++Te c
 | .nil=>rfl
 | .cons k x y c r=>by simp only[nodes,UB,Te,Y3 c,List.cons_append,List.append_assoc]
def Yw:Nat→F→F
 |0,c=>c
 |_+1,.nil=>.nil
 |i+1,.cons _ _ _ c _=>Yw i c
theorem ŀ:∀c:F,Yw (UB c).length c=.nil
 | .nil=>rfl
 | .cons k x y c r=>ŀ c
theorem ũ:∀(i:Nat)(c:F),i<(UB c).length→∃k x y c' r,Yw i c=.cons k x y c' r∧Yw (i+1) c=c'
 |i,.nil,h=>by simp[UB]at h
 |0,.cons k x y c r,_=>⟨k,x,y,c,r,rfl,by cases c <;> rfl⟩
 |i+1,.cons k x y c r,h=>ũ i c (by simpa[UB]using h)
theorem Ě:∀(i:Nat)(nd:Nd),i≤(UB nd.c).length→∃n',(nd::UB nd.c)[i]?=some n'∧n'.c=Yw i nd.c
 |0,nd,_=>⟨nd,rfl,rfl⟩
 |i+1,nd,h=>by
  cases hc:nd.c with
  |nil=>rw[hc]at h;simp[UB]at h
  |cons k x y c r=>rw[hc]at h;obtain⟨n',h1,h2⟩:=Ě i ⟨k,x,y,c⟩ (by simpa[UB]using h);exact⟨n',by simpa[UB]using h1,h2⟩
theorem Ū:∀(i:Nat)(c:F),(Yw i c).size≤c.size
 |0,c=>Nat.le_refl _
 |i+1,.nil=>Nat.le_refl _
 |i+1,.cons k x y c r=>by have:=Ū i c;simp only[Yw,F.size];omega
def Mi(B0 B:Nat):Nat→Prop:=fun b=>B0≤b∧b<B
theorem Fs.ZJ{w w':World}{B0 B n:Nat}{v:Value}{f:F}(h:Fs w (Mi B0 B) v f)(hb:Below n w w')(hB:B≤n):Fs w' (Mi B0 B) v f :=
 h.keep fun b hb'=>hb.block b (VE hb'.2 hB)
def TQ(w:World)(g:Nat)(v:Value):Prop:=w.heap[g]?=some (θ #[v] 22 (0,0))
theorem TQ.cell{w:World}{g:Nat}{v:Value}(h:TQ w g v):w.cell? ⟨g,0,none⟩=some v:=by
 unfold TQ at h;simp[World.cell?,h]
theorem TQ.JO{w:World}{g:Nat}{v:Value}(h:TQ w g v):w.frozen? ⟨g,0,none⟩=false:=by
 unfold TQ at h;simp[World.frozen?,h]
theorem TQ.lt{w:World}{g:Nat}{v:Value}(h:TQ w g v):g<w.heap.size:=lt_of_block h
theorem TQ.set{w:World}{g:Nat}{v:Value}(h:TQ w g v)(u:Value):TQ (w.setCell ⟨g,0,none⟩ u) g u:=by
 have:=Z8 h 0 u;unfold TQ;simpa using this
structure SI(w W:World)(gl:Nat)(v:Value):Prop where
 os:W.os=w.os
 tape:W.tape=w.tape
 output:W.output=w.output
 size:w.heap.size≤W.heap.size
 block:∀b,b<w.heap.size→b≠gl→some b≠v.ownBlock→W.heap[b]?=w.heap[b]?
structure Bz(w:World)(B0 B gl ga:Nat)(v:Value)(L:List Nd):Prop where
 box:TQ w gl v
 own:Zs w (Mi B0 B) v L
 d:∀g,v.ownBlock=some g→B≤g∧g≠gl∧g≠ga
 fn:w.cell? ⟨ga,0,none⟩=some (.func (.func 108) #[] #[π (some ⟨gl,0,none⟩),π (some ⟨ga,0,none⟩)])
 hB:B≤gl∧B≤ga∧gl≠ga∧B≤w.heap.size
 ha:ga<w.heap.size
structure V'(w W:World)(B0 B gl ga:Nat)(v v':Value)(L':List Nd):Prop where
 fr:SI w W gl v
 at_:Bz W B0 B gl ga v' L'
 nb:v'.ownBlock=v.ownBlock∨∃g,v'.ownBlock=some g∧w.heap.size≤g
section
variable {w W W':World}{B0 B gl ga:Nat}{v v' v2:Value}{L L' L2:List Nd}
theorem SI.refl(w:World)(gl:Nat)(v:Value):SI w w gl v:=⟨rfl,rfl,rfl,Nat.le_refl _,fun _ _ _ _=>rfl⟩
theorem SI.below(h:Below w.heap.size w W)(gl:Nat)(v:Value):SI w W gl v:=⟨h.os,h.tape,h.output,h.size,fun b hb _ _=>h.block b hb⟩
theorem SI.trans(h:SI w W gl v)(h2:SI W W' gl v')(nb:v'.ownBlock=v.ownBlock∨∃g,v'.ownBlock=some g∧w.heap.size≤g):SI w W' gl v :=
 ⟨h2.os.trans h.os,h2.tape.trans h.tape,h2.output.trans h.output,QW h.size h2.size,fun b hb h1 h3=>(h2.block b (VE hb h.size) h1 (fun e=>by
  rcases nb with nb|⟨g,nb,hg⟩
  ·exact h3 (e.trans nb)
  ·rw[nb]at e;have:=Option.some.inj e;omega)).trans (h.block b hb h1 h3)⟩
theorem Bz.later(h:Bz w B0 B gl ga v L)(hb:Below w.heap.size w W):Bz W B0 B gl ga v L :=
 ⟨(hb.block gl h.box.lt).trans h.box,h.own.later hb fun b hb'=>VE hb'.2 h.hB.2.2.2,h.d,(hb.cell (p:=⟨ga,0,none⟩) h.ha).trans h.fn,⟨h.hB.1,h.hB.2.1,h.hB.2.2.1,QW h.hB.2.2.2 hb.size⟩,VE h.ha hb.size⟩
theorem V'.refl(h:Bz w B0 B gl ga v L):V' w w B0 B gl ga v v L:=⟨SI.refl _ _ _,h,.inl rfl⟩
theorem V'.later(h:V' w W B0 B gl ga v v' L')(hb:Below W.heap.size W W'):V' w W' B0 B gl ga v v' L' :=
 ⟨h.fr.trans (SI.below hb gl v') h.nb,h.at_.later hb,h.nb⟩
theorem V'.trans(h:V' w W B0 B gl ga v v' L')(h2:V' W W' B0 B gl ga v' v2 L2):V' w W' B0 B gl ga v v2 L2 :=
 ⟨h.fr.trans h2.fr h.nb,h2.at_,by
  rcases h2.nb with e|⟨g,e,hg⟩
  ·rw[e];exact h.nb
  ·exact .inr ⟨g,e,QW h.fr.size hg⟩⟩
theorem V'.keep(h:V' w W B0 B gl ga v v' L'){b:Nat}(hb:b<w.heap.size)(h1:b≠gl)(h2:some b≠v.ownBlock):W.heap[b]?=w.heap[b]?:=h.fr.block b hb h1 h2
theorem SI.lo(h:SI w W gl v)(h0:Bz w B0 B gl ga v L){s:Value}{f:F}(hf:Fs w (Mi B0 B) s f):Fs W (Mi B0 B) s f :=
 hf.keep fun b hb=>by
  have hb':b<B:=hb.2;have:=h0.hB;exact h.block b ω ω fun e=>by have:=(h0.d b e.symm).1;omega
end
structure Hf(w W:World)(B0 B gl ga:Nat)(v v':Value)(L:List Nd)(nd:Nd)(q r:Bool):Prop where
 fr:SI w W gl v
 own:Zs W (Mi B0 B) v' (L++[if q=true then nd else⟨0,⟨#[]⟩,⟨#[]⟩,.nil⟩])
 box:TQ W gl (if r=true then v' else v)
 d:∀g,v'.ownBlock=some g→B≤g∧g≠gl∧g≠ga
 nb:v'.ownBlock=v.ownBlock∨∃g,v'.ownBlock=some g∧w.heap.size≤g
 hB:B≤gl∧B≤W.heap.size
section
variable {w W W':World}{B0 B gl ga:Nat}{v v':Value}{L:List Nd}{nd:Nd}{q r:Bool}
theorem Hf.later(h:Hf w W B0 B gl ga v v' L nd q r)(hb:Below W.heap.size W W'):Hf w W' B0 B gl ga v v' L nd q r :=
 ⟨h.fr.trans (SI.below hb gl v') h.nb,h.own.later hb fun b hb'=>VE hb'.2 h.hB.2,(hb.block gl h.box.lt).trans h.box,h.d,h.nb,h.hB.1,QW h.hB.2 hb.size⟩
theorem Hf.start(h:Bz W B0 B gl ga v L)(hw:Below w.heap.size w W)(ho:Zs W' (Mi B0 B) v' (L++[⟨0,⟨#[]⟩,⟨#[]⟩,.nil⟩]))(hg:W.grownBy W' v.ownBlock)(hv:v'.ownBlock=v.ownBlock∨v'.ownBlock=some W.heap.size):Hf w W' B0 B gl ga v v' L nd false false:=by
 have hgl:=h.box.lt;refine⟨(SI.below hw gl v).trans ⟨hg.os,hg.tape,hg.output,hg.size,fun b hb _ hne=>hg.block b hb hne⟩ (.inl rfl),ho,(hg.block gl hgl fun e=>(h.d gl e.symm).2.1 rfl).trans h.box,fun g e=>?_,?_,h.hB.1,QW h.hB.2.2.2 hg.size⟩
 ·rcases hv with hv|hv
  ·exact h.d g (hv ▸ e)
  ·rw[hv]at e;obtain rfl:=Option.some.inj e;have:=h.ha;have:=h.hB;exact⟨ω,ω,ω⟩
 ·rcases hv with hv|hv
  ·exact .inl hv
  ·exact .inr ⟨_,hv,hw.size⟩
theorem Hf.jA{g n c:Nat}{s:Value}(h:Hf w W B0 B gl ga v (ς (some ⟨g,0,none⟩) n c) L nd false r)(hf:Fs W (Mi B0 B) s nd.c):Hf w (KD W g L.length nd.k nd.x nd.y s) B0 B gl ga v (ς (some ⟨g,0,none⟩) n c) L nd true r:=by
 have hg:=El W g L.length nd.k nd.x nd.y s;have hd:=h.d g rfl
 have ho:=h.own.put L.length ψ nd.k nd.x nd.y s nd.c hf (fun b hb=>by
  have hb':b<B:=hb.2;have:=h.hB.2;exact⟨ω,ω⟩)
 rw[List.set_append_right _ _ (Nat.le_refl _),Nat.sub_self]at ho;refine⟨h.fr.trans (v':=ς (some ⟨g,0,none⟩) n c) ⟨hg.os,hg.tape,hg.output,hg.size,fun b hb _ hne=>hg.block b hb hne⟩ h.nb,ho,(hg.block gl h.box.lt fun e=>hd.2.1 (Option.some.inj e).symm).trans h.box,h.d,h.nb,h.hB.1,QW h.hB.2 hg.size⟩
theorem Hf.jB(h:Hf w W B0 B gl ga v v' L nd q false):Hf w (W.setCell ⟨gl,0,none⟩ v') B0 B gl ga v v' L nd q true:=by
 have hg:=Uo W gl 0 v';refine⟨⟨hg.os.trans h.fr.os,hg.tape.trans h.fr.tape,hg.output.trans h.fr.output,QW h.fr.size hg.size,fun b hb h1 h2=>(hg.block b (VE hb h.fr.size) fun e=>h1 (Option.some.inj e)).trans (h.fr.block b hb h1 h2)⟩,h.own.grown hg (.inr fun e=>(h.d _ e).2.1 rfl) fun b hb=>?_,h.box.set v',h.d,h.nb,h.hB.1,QW h.hB.2 hg.size⟩;have hb':b<B:=hb.2;have:=h.hB;exact⟨ω,fun e=>by have:=Option.some.inj e;omega⟩
theorem Hf.form{ln:Nat}(h:Hf w W B0 B gl ga v v' L nd q r)(hl:L.length=ln):∃g c,v'=ς (some ⟨g,0,none⟩) (ln+1) c:=by
 obtain⟨a,c,e,_,_⟩:=h.own.slice;have ho:=h.own;rw[e]at ho;obtain⟨g,s,e2,_⟩:=ho.at_ (i:=L.length) (nd:=if q=true then nd else⟨0,⟨#[]⟩,⟨#[]⟩,.nil⟩) ψ;exact⟨g,c,by rw[e,e2,List.length_append,hl];rfl⟩
theorem Hf.cells{g n c ln:Nat}(h:Hf w W B0 B gl ga v (ς (some ⟨g,0,none⟩) n c) L nd q r)(hl:L.length=ln) :
 (∃k x y s,W.cell? ⟨g,ln*4,none⟩=some (ι γ k)∧W.cell? ⟨g,ln*4+1,none⟩=some (σ x)∧W.cell? ⟨g,ln*4+2,none⟩=some (σ y)∧W.cell? ⟨g,ln*4+3,none⟩=some s)∧
 W.frozen? ⟨g,ln*4,none⟩=false∧W.frozen? ⟨g,ln*4+1,none⟩=false∧W.frozen? ⟨g,ln*4+2,none⟩=false∧W.frozen? ⟨g,ln*4+3,none⟩=false:=by
 obtain⟨g',s,e2,_,c0,c1,c2,c3,_⟩:=h.own.at_ (i:=L.length) (nd:=if q=true then nd else⟨0,⟨#[]⟩,⟨#[]⟩,.nil⟩) ψ;have e3:=Option.some.inj e2;injection e3 with e4;subst e4;rw[hl]at c0 c1 c2 c3;obtain⟨ps,_,ho,_⟩:=h.own;obtain⟨_,_,e,_,_⟩:=Q0 ho;injection e with _ e2' _;rw[←e2']at ho;exact⟨⟨_,_,_,_,c0,c1,c2,c3⟩,ho.frozenAt _,ho.frozenAt _,ho.frozenAt _,ho.frozenAt _⟩
theorem V'.Ao{W0:World}{g:Nat}{v0 v1 v2' v3:Value}{L':List Nd}(h:V' W0 W B0 B gl ga v v' L')(hg:W0.heap.size≤g)(WY:B≤W0.heap.size)(hgl:g≠gl)(hga:g≠ga)(hgo:some g≠v'.ownBlock):V' W0 ((((W.setCell ⟨g,0,none⟩ v0).setCell ⟨g,1,none⟩ v1).setCell ⟨g,2,none⟩ v2').setCell ⟨g,3,none⟩ v3) B0 B gl ga v v' L':=by
 have hbb:=Ji W g v0 v1 v2' v3;have hoth:=fun b (hb:b≠g)=>Vr W g b v0 v1 v2' v3 hb
 have hB:=h.at_.hB;refine⟨⟨hbb.os.trans h.fr.os,hbb.tape.trans h.fr.tape,hbb.output.trans h.fr.output,QW h.fr.size hbb.size,fun b hb h1 h2=>(hoth b ω).trans (h.fr.block b hb h1 h2)⟩,⟨(hoth gl (Ne.symm hgl)).trans h.at_.box,?_,h.at_.d,?_,⟨hB.1,hB.2.1,hB.2.2.1,QW hB.2.2.2 hbb.size⟩,VE h.at_.ha hbb.size⟩,h.nb⟩
 ·refine h.at_.own.grown ⟨hbb.os,hbb.tape,hbb.output,hbb.size,fun b _ hne=>hoth b fun e=>hne (by rw[e])⟩ (row:=some g) (.inr (Ne.symm hgo)) fun b hb=>?_
  have hb':b<B:=hb.2;have:=h.fr.size;have:=h.at_.box.lt;refine⟨ω,fun e=>?_⟩;have:=Option.some.inj e;omega
 ·exact(World.cell?_of_block (a:=⟨ga,0,none⟩) (hoth ga (Ne.symm hga))).trans h.at_.fn
theorem Hf.done(h:Hf w W B0 B gl ga v v' L nd true true)(h0:Bz w B0 B gl ga v L):V' w W B0 B gl ga v v' (L++[nd]):=by
 refine⟨h.fr,⟨h.box,h.own,h.d,?_,⟨h0.hB.1,h0.hB.2.1,h0.hB.2.2.1,h.hB.2⟩,VE h0.ha h.fr.size⟩,h.nb⟩;exact(World.cell?_of_block (a:=⟨ga,0,none⟩) (h.fr.block ga h0.ha (Ne.symm h0.hB.2.2.1) fun e=>(h0.d ga e.symm).2.2 rfl)).trans h0.fn
end
