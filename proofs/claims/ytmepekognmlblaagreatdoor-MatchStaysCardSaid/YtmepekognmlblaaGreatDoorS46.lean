import Derived.Test.YtmepekognmlblaaGreatDoorS41
import Derived.Test.YtmepekognmlblaaGreatDoorS44
import Derived.Test.YtmepekognmlblaaGreatDoorS45
set_option maxHeartbeats 64000000
set_option maxRecDepth 100000
set_option linter.unusedVariables false
open Go.ChangeShapes Go.WideShapes Go.ChangeAt Go.RowKit
open _root_.Bool renaming and_eq_true→Th
open _root_.List renaming getD_eq_getElem?_getD→QX,getElem?_eq_none→YP,mem_cons→Tg
open Go.Lib renaming hid→QA
open _root_.Nat renaming le_trans→QW
open Go.Value renaming string→σ,int→ι,slice→ς,bool→τ,agg→ξ
open Go.IntKind renaming i64→γ
open Go.Obj renaming cells→θ
open Go.Ending renaming returned→ρ
namespace Go.Proofs.YtmepekognmlblaaGreatDoor
namespace Match
open Mem Tree Shape
theorem Ř{nm:ByteArray→Bool}{tk:ByteArray→Int→Bool}:∀(f:F)(pk:Int)(px:ByteArray)(it:Bool)(d i a:Nat)(L rest:List Nd),Kd nm tk pk px it d i f=true→L.drop a=nodes f++rest→∀p∈places a f,∃nd,L[p]?=some nd∧(nd.k=7→0<nd.c.len)
 | .nil,_,_,_,_,_,_,_,_,_,_,p,hp=>by simp[places]at hp
 | .cons k x y c r,pk,px,it,d,i,a,L,rest,hk,hL,p,hp=>by
   simp only[Kd,Th]at hk;obtain⟨⟨⟨_,h1⟩,_⟩,h2⟩:=hk;simp only[nodes]at hL;simp only[places,Tg]at hp;rcases hp with rfl|hp
   ·refine⟨⟨k,x,y,c⟩,?_,fun e=>?_⟩
    ·have:=congrArg (fun l=>l[0]?) hL;simp only[List.getElem?_drop,Nat.add_zero]at this;rw[this];rfl
    ·have e:k=7:=e;subst e;show 0<c.len;cases c with
     |nil=>unfold Ed at h1;simp only[Th]at h1;exact absurd h1.2.2 (by simp[Qc,Qg,Pt.take])
     |cons=>simp[F.len]
   ·refine Ř r pk px it d (i+1) _ L rest h2 ?_ p hp;have h3:(L.drop a).drop (c.size+1)=(nodes r)++rest:=by
     rw[hL];simp only[List.cons_append,List.append_assoc,List.drop_succ_cons];rw[List.drop_append_of_le_length (by rw[Qj];exact Nat.le_refl _),List.drop_of_length_le (by rw[Qj];exact Nat.le_refl _),List.nil_append]
    rw[List.drop_drop]at h3;first
     |exact h3
     |(rw[show a+(c.size+1)=a+1+c.size by omega]at h3;exact h3)
     |(rw[show a+(c.size+1)=a+c.size+1 by omega]at h3;exact h3)
theorem Yj{s:Sd}{k:Int}{x y:ByteArray}{c:F}(hs:s.T=one k x y c):s.nd[0]?=some ⟨k,x,y,c⟩∧s.nd.drop 1=nodes c++[]:=by
 unfold Sd.nd;rw[hs];exact⟨rfl,rfl⟩
theorem Ķ{nm:ByteArray→Bool}{tk:ByteArray→Int→Bool}{s:Sd}{k:Int}{x y:ByteArray}{c:F}(hs:s.T=one k x y c)(h:Vl nm tk k x y c=true):∀p∈s.kid 0,(s.at_ p).k=7→0<(s.kid p).length:=by
 intro p hp h7;obtain⟨e0,e1⟩:=Yj hs;have hn:0<s.n:=by rw[Sd.GN,hs,Q4];omega
 have GZ:=Z1 p hp;rw[Sd.GR hn,Sd.UM e0]at hp;unfold Vl Vz at h;simp only[Th]at h;obtain⟨nd,h1,h2⟩:=Ř c k x (holds k) 0 0 1 s.nd [] h.2.2 e1 p hp;rw[Sd.GR GZ,Jc];rw[Sd.UM h1]at h7⊢;exact h2 h7
theorem Yy:∀{f:F},Zp f→∀nd∈nodes f,nd.x.size≤1000000
 | .nil,_,nd,h=>by simp[nodes]at h
 | .cons k x y c r,hs,nd,h=>by
   obtain⟨h1,h2,h3,h4⟩:=hs;simp only[nodes,Tg,List.mem_append]at h;rcases h with rfl|h|h
   ·exact h1
   ·exact Yy h3 nd h
   ·exact Yy h4 nd h
theorem Ua:∀{f:F},Vf f→∀nd∈nodes f,Hg nd.k
 | .nil,_,nd,h=>by simp[nodes]at h
 | .cons k x y c r,hs,nd,h=>by
   obtain⟨h1,h2,h3⟩:=hs;simp only[nodes,Tg,List.mem_append]at h;rcases h with rfl|h|h
   ·exact h1
   ·exact Ua h2 nd h
   ·exact Ua h3 nd h
theorem ĩ(s:Sd)(p:Nat):s.at_ p∈nodes s.T∨s.at_ p=⟨0,.empty,.empty,.nil⟩:=by
 by_cases h:p<s.n
 ·left
  have:=Sd.ZK h;exact List.mem_of_getElem? this
 ·right
  unfold Sd.at_;rw[QX,YP (by unfold Sd.n at h;omega)];rfl
theorem Gd{s:Sd}(h:Zp s.T)(p:Nat):(s.at_ p).x.size≤1000000:=by
 rcases ĩ s p with h1|h1
 ·exact Yy h _ h1
 ·rw[h1];show(0:Nat)≤_;omega
theorem Gq{s:Sd}(h:Vf s.T)(p:Nat):Hg (s.at_ p).k:=by
 rcases ĩ s p with h1|h1
 ·exact Ua h _ h1
 ·rw[h1];unfold Hg;exact⟨by show(-9223372036854775808:Int)≤0;omega,by show(0:Int)≤9223372036854775807;omega⟩
theorem ş(L seen:List Nd)(m:Nat)(h:m∈(Qk seen L).1):m<seen.length+L.length:=by
 obtain⟨i,hi,e⟩:=List.mem_iff_getElem.1 h;have:=fU L seen i (by rw[Z0]at hi;exact hi);rw[QX,List.getElem?_eq_getElem hi,e]at this;exact this
theorem Qy2{T T':F}(hT:∃k x y c,T=one k x y c)(hT':∃k x y c,T'=one k x y c)(h1:T.size≤20000)(h2:T'.size≤20000)(hk:Vf T)(hk':Vf T'):Fit (XJ T) (XZ T T'):=by
 have l1:(nodes T).length≤20000:=by rw[Qj];exact h1
 have l2:(nodes T').length≤20000:=by rw[Qj];exact h2
 have l3:=Gh (nodes T) [];rw[List.length_nil]at l3;refine⟨fy hT hT',l1,l2,Z0 _ _,Z0 _ _,fun m hm=>?_,fun m hm=>?_,Gq (s:=XJ T) hk,Gq (s:=XZ T T') hk'⟩
 ·have:=ş _ _ m hm;rw[List.length_nil]at this;omega
 ·have:=ş _ _ m hm;omega
theorem ī{s:Sd}(h:∀m∈s.ns,m<1000000)(x:Nat):s.no x<1000000:=by
 unfold Sd.no;by_cases hx:x<s.ns.length
 ·rw[QX,List.getElem?_eq_getElem hx];exact h _ (List.getElem_mem _)
 ·rw[QX,YP ω];show(0:Nat)<_;omega
theorem Qwa{a b:Sd}(hf:Fit a b)(ha:Zp a.T)(hb:Zp b.T):∀k∈jW a b,FY k:=by
 intro k hk;rcases List.mem_cons.1 hk with rfl|hk
 ·exact Ï
 ·rcases List.mem_append.1 hk with hk|hk
  ·obtain⟨p,_,h⟩:=List.mem_filterMap.1 hk;exact ħ h (ī hf.fa) (Nat.le_trans (Gd ha p) (by unfold maxLen;omega)) (hf.ka p)
  ·obtain⟨p,_,h⟩:=List.mem_filterMap.1 hk;exact ħ h (ī hf.fb) (Nat.le_trans (Gd hb p) (by unfold maxLen;omega)) (hf.kb p)
def Rz(k:Int)(x y:ByteArray)(c:F)(k':Int)(x' y':ByteArray)(c':F):List P2 :=
 if 20000≤c.size∨20000≤c'.size then[]else if k≠k' then[]else
 Ki (V4 (XJ (one k x y c)) (XZ (one k x y c) (one k' x' y' c')) (Vl ZZ ZN k x y c&&Vl ZZ ZN k' x' y' c')).1
def é(w:World)(er:Int)(L:List P2)(e:Ending)(w':World):Prop:=Below w.heap.size w w'∧∃v,e=ρ (.tuple #[v,ι γ er])∧Qm w' (In w.heap.size w'.heap.size) v L
theorem G7(w:World)(S:Nat→Prop):Qm w S (ς none 0 0) []:=⟨none,0,rfl,Nat.le_refl _,by unfold maxLen;omega,.inl rfl⟩
theorem Qy(k:Int)(x y:ByteArray)(A:Option Addr)(n C:Nat)(c:F)(k':Int)(x' y':ByteArray)(A':Option Addr)(n' C':Nat)(c':F)(w:World)(hp:Pow w)(hT:Lex.XF w)(hf:Fs w (Lo w.heap.size) (ς A n C) c)(hf':Fs w (Lo w.heap.size) (ς A' n' C') c')
 (hc:c.size≤45000) (hc':c'.size≤45000) (hsm:c.size<20000→∀i,Xc (Zt (one k x y c)) i≤4194304) (CD:c'.size<20000→∀i,Xc (Zt (one k' x' y' c')) i≤4194304) (hs:Zp (Gl k x y c k' x' y' c')) (hk:Vf (Gl k x y c k' x' y' c')) :
 Calls Tryz.prog 12 #[ξ #[ι γ k,σ x,σ y,ς A n C],ξ #[ι γ k',σ x',σ y',ς A' n' C']] w (é w (if 20000≤c.size∨20000≤c'.size then 2 else 0) (Rz k x y c k' x' y' c')):=by
 have b1:=Qz w (θ #[ι γ k,σ x,σ y,ς A n C] 24);have q:=J6 w k x y (ς A n C);have b2:=Qz (w.alloc (θ #[ι γ k,σ x,σ y,ς A n C] 24)) (θ #[ι γ k',σ x',σ y',ς A' n' C'] 24);have q':=J6 (w.alloc (θ #[ι γ k,σ x,σ y,ς A n C] 24)) k' x' y' (ς A' n' C');have e1:(w.alloc (θ #[ι γ k,σ x,σ y,ς A n C] 24)).heap.size=w.heap.size+1:=ψ
 rw[e1]at q';have HB:=QA (b1.trans (b2.mono b1.size));have Po:Hid (∀W,Below ((w.alloc (θ #[ι γ k,σ x,σ y,ς A n C] 24)).alloc (θ #[ι γ k',σ x',σ y',ς A' n' C'] 24)).heap.size ((w.alloc (θ #[ι γ k,σ x,σ y,ς A n C] 24)).alloc (θ #[ι γ k',σ x',σ y',ς A' n' C'] 24)) W→_):=fun W hW=>q W (b2.trans (hW.mono b2.size))
 have Pn:=QA q';have LK:=QA ((hf.later b1).later b2);have XY:=QA ((hf'.later b1).later b2);have HP:=QA (hp.on (b1.trans (b2.mono b1.size)));have Dw:=hT.below (b1.trans (b2.mono b1.size)) hT.pos;have NL:=QA Dw;have HC:=QA (And.intro hc hc');have Tq:=QA (And.intro hsm CD);have PZ:=QA (And.intro hs hk);obtain⟨r0,r1,r2,r3⟩:=Po.out _ (Below.refl _ _);obtain⟨s0,s1,s2,s3⟩:=Pn.out _ (Below.refl _ _);have vM:=QA (Œ c.size k x y A n C c _ (Nat.le_refl _) ω LK.out);obtain⟨er,her⟩:∃er:Int,(if 20000≤c.size∨20000≤c'.size then 2 else 0)=er:=⟨_,rfl⟩;obtain⟨mt,RM⟩:=Mem.QD (Rz k x y c k' x' y' c');have wT:=QA her;have si:=QA RM;rw[her,RM];have BA:Hid (w.heap.size+1<((w.alloc (θ #[ι γ k,σ x,σ y,ς A n C] 24)).alloc (θ #[ι γ k',σ x',σ y',ς A' n' C'] 24)).heap.size):=by show _<_;simp
 obtain⟨z0,hz0⟩:=Mem.QD (c.size+1);obtain⟨z1,hz1⟩:=Mem.QD (c'.size+1);have Q12:z0≤45001:=ω
 have Q11:z1≤45001:=ω
 have HZ:=QA (And.intro hz0 hz1);rw[hz0]at vM;clear e1 b1 b2 q q' hp hf hf' hc hc' hsm CD hs hk hT Dw her RM hz0;go_enter Tryz.func12,Tryz.ntmps12;go_wp2_with fail;refine c₁ vM.out fun w3 hb3=>?_;have VG:=QA hb3;clear vM r0 r1 r2 r3 s0 s1 s2 s3;obtain⟨r0,r1,r2,r3⟩:=Po.out w3 hb3;obtain⟨s0,s1,s2,s3⟩:=Pn.out w3 hb3;have oG:=QA (Œ c'.size k' x' y' A' n' C' c' w3 (Nat.le_refl _) (by have:=HC.out;omega) (XY.out.later hb3));rw[hz1]at oG;clear hb3 hz1;by_cases hbig:20000<z0
 ·have RQ:(20000:Int)<(z0:Int):=ω
  have HE:Hid (er=2∧mt=[]):=⟨by rw[←wT.out,if_pos (.inl (by have:=HZ.out;omega))],by rw[←si.out];unfold Rz;rw[if_pos (.inl (by have:=HZ.out;omega))]⟩;go_wp2
  go_ret2
  refine⟨HB.out.trans (VG.out.mono HB.out.size),ς none 0 0,by rw[HE.out.1];rfl,by rw[HE.out.2];exact G7 _ _⟩
 ·have RQ:¬(20000:Int)<(z0:Int):=ω
  go_wp2_with fail;refine c₁ oG.out fun w4 hb4=>?_;have KF:=VO VG hb4;clear oG r0 r1 r2 r3 s0 s1 s2 s3 hb4;obtain⟨r0,r1,r2,r3⟩:=Po.out w4 KF.out;obtain⟨s0,s1,s2,s3⟩:=Pn.out w4 KF.out;by_cases Q1u:20000<z1
  ·have WN:(20000:Int)<(z1:Int):=ω
   have HE:Hid (er=2∧mt=[]):=⟨by rw[←wT.out,if_pos (.inr (by have:=HZ.out;omega))],by rw[←si.out];unfold Rz;rw[if_pos (.inr (by have:=HZ.out;omega))]⟩;go_wp2
   go_ret2
   refine⟨HB.out.trans (KF.out.mono HB.out.size),ς none 0 0,by rw[HE.out.1];rfl,by rw[HE.out.2];exact G7 _ _⟩
  ·have WN:¬(20000:Int)<(z1:Int):=ω
   have hsz:¬(20000≤c.size∨20000≤c'.size):=by have:=HZ.out;omega
   have XO:=QA hsz;have sO:Hid (er=0):=by show _=_;rw[←wT.out,if_neg hsz]
   clear hsz;by_cases hkk:k=k'
   ·subst hkk;have hne:((k:Int) != k)=false:=ψ
    have HBG:=QA (Jj k x y A n C c k x' y' A' n' C' c' w4 (HP.out.on KF.out) (LK.out.later KF.out) (XY.out.later KF.out) (by have:=XO.out;omega) (by have:=XO.out;omega) (Tq.out.1 (by have:=XO.out;omega)) (Tq.out.2 (by have:=XO.out;omega)) PZ.out.1 PZ.out.2);go_wp2_with fail;refine HBG.out.mono ?_;rintro e w5 ⟨Y',g,gA,gB,S,rfl,⟨Ol,Mg⟩,KL⟩;obtain⟨sa,hsa⟩:=Mem.QD (XJ (one k x y c));obtain⟨sb,Hw⟩:=Mem.QD (XZ (one k x y c) (one k x' y' c'));have hfit:=Qy2 (T:=one k x y c) (T':=one k x' y' c') ⟨k,x,y,c,rfl⟩ ⟨k,x',y',c',rfl⟩ (by rw[Q4];have:=XO.out;omega) (by rw[Q4];have:=XO.out;omega) ⟨PZ.out.2.1,PZ.out.2.2.1,trivial⟩ PZ.out.2.2.2;have De:=Qwa hfit (show Zp (one k x y c)from⟨PZ.out.1.1,PZ.out.1.2.1,PZ.out.1.2.2.1,trivial⟩) (show Zp (one k x' y' c')from PZ.out.1.2.2.2);have xZ:sa.T=one k x y c:=by rw[←hsa];rfl
    have xY:sb.T=one k x' y' c':=by rw[←Hw];rfl
    have hkr:(sa.at_ 0).k=(sb.at_ 0).k:=by rw[Sd.UM (Yj xZ).1,Sd.UM (Yj xY).1]
    rw[hsa,Hw]at KL hfit De;have Tw:=QA hfit;have HKEY:=QA De;have HTA:=QA xZ;have yX:=QA xY;obtain⟨hinv,zP⟩:=yw hfit.nums hkr;have XA:=QA (And.intro hinv zP);have JL:=QA KL;have LO:=VO KF Y';have IC:Hid (((w.alloc (θ #[ι γ k,σ x,σ y,ς A n C] 24)).alloc (θ #[ι γ k,σ x',σ y',ς A' n' C'] 24)).heap.size≤gA∧((w.alloc (θ #[ι γ k,σ x,σ y,ς A n C] 24)).alloc (θ #[ι γ k,σ x',σ y',ς A' n' C'] 24)).heap.size≤gB):=⟨QW KF.out.size Ol,QW KF.out.size Mg⟩;have Rb:=QA (J9 KL hfit 0 0 hfit.nums.EG.pos hfit.nums.Hq.pos);have qN:Hid (mt=Ki (V4 sa sb (Vl ZZ ZN k x y c&&Vl ZZ ZN k x' y' c')).1):=by show _=_;rw[←si.out];unfold Rz;rw[if_neg XO.out,if_neg ψ,hsa,Hw]
    clear HBG hfit De xZ xY hkr hinv zP KL Y' Ol Mg hsa Hw r0 r1 r2 r3 s0 s1 s2 s3;go_wp2_with fail;refine Rb.out.mono ?_;rintro e w6 ⟨rfl,Sv,TH⟩;obtain⟨w2,hw2⟩:∃w2,((w.alloc (θ #[ι γ k,σ x,σ y,ς A n C] 24)).alloc (θ #[ι γ k,σ x',σ y',ς A' n' C'] 24))=w2:=⟨_,rfl⟩;rw[hw2]at HB Po Pn LK XY HP NL VG KF LO IC BA;have GG:=QA (LO.out.trans (Sv.below LO.out.size IC.out.1 IC.out.2));have qZ:Hid (MS w6 S g gA gB sa sb (M1 sa sb)):=TH;have VN:=ŧ k x y A n C c w6 (LK.out.later GG.out) PZ.out.1.1 PZ.out.1.2.1 PZ.out.1.2.2.1 (NL.out.below GG.out NL.out.pos);obtain⟨tG,Fp⟩:∃r,Vl ZZ ZN k x y c=r:=⟨_,rfl⟩;obtain⟨N2,Q3v⟩:∃r,Vl ZZ ZN k x' y' c'=r:=⟨_,rfl⟩;have DW:=QA (And.intro Fp Q3v);rw[Fp]at VN;have P':=QA VN;rw[Fp,Q3v]at qN;obtain⟨r0,r1,r2,r3⟩:=Po.out w6 GG.out;clear Sv TH JL Rb VN Fp Q3v hw2 HZ
    go_upto_region 7 with(fail)
    go_cut [30]from 25 to 30 (fun s W=>s=τ (tG&&N2)∧Hid (Below w2.heap.size w2 W∧MS W S g gA gB sa sb (M1 sa sb)))
    case first =>
     go_wp2_with fail;refine c₁ P'.out fun w7 VL=>?_;have UG:=VO GG VL;have Iw:=QA (qZ.out.later VL);clear VL P' r0 r1 r2 r3;cases tG with
     |false =>
      go_wp2
      go_meet
      case rel=>exact⟨rfl,UG.out,Iw.out⟩
     |true =>
      have hr1:=ŧ k x' y' A' n' C' c' w7 (XY.out.later UG.out) PZ.out.1.2.2.2.1 PZ.out.1.2.2.2.2.1 PZ.out.1.2.2.2.2.2.1 (NL.out.below UG.out NL.out.pos);rw[DW.out.2]at hr1;have XQ:=QA hr1;obtain⟨s0,s1,s2,s3⟩:=Pn.out w7 UG.out;clear hr1;go_wp2_with fail;refine c₁ XQ.out fun w8 YJ=>?_;have Hm:=VO UG YJ;have uC:=QA (Iw.out.later YJ);clear YJ XQ s0 s1 s2 s3;go_wp2
      go_meet
      case rel=>exact⟨rfl,Hm.out,uC.out⟩
    case rest =>
     obtain⟨rfl,HW⟩:=hcut;obtain⟨w8,AR⟩:∃w8,w8=wc:=⟨_,rfl⟩;subst AR;clear P' r0 r1 r2 r3 qZ GG;obtain⟨rt,hrt⟩:=Mem.QD ((tG&&N2));have aB:=QA hrt;rw[hrt]at qN⊢;obtain⟨M2,Mn⟩:=Mem.QD ((if rt then Zw sa sb (M1 sa sb) (sa.kid 0)else M1 sa sb));have SD:=QA Mn;have xc:Inv sa sb M2∧Ext (M1 sa sb) M2:=by
      rw[←Mn];cases rt with
      |false=>exact⟨XA.out.1,Ext.refl _⟩
      |true =>
       have hkr:(sa.at_ 0).k=(sb.at_ 0).k:=by rw[Sd.UM (Yj HTA.out).1,Sd.UM (Yj yX.out).1]
       have:=Gy Tw.out.nums (sa.kid 0) (M1 sa sb) XA.out.1 (iU sa 0) fun x hx=>⟨hx,bX Tw.out.nums hkr hx⟩
       exact⟨this.1,this.2.1⟩
     have zi:=QA xc;clear hrt Mn xc
     go_upto_if 30 with(fail)
     go_cut []from 31 to 32 (fun W=>Hid (Below w2.heap.size w2 W∧MS W S g gA gB sa sb M2))
     case first =>
      cases rt with
      |false =>
       have HE:Hid (M1 sa sb=M2):=SD.out;go_wp2
       go_meet
       case rel=>exact⟨HW.out.1,by rw[←HE.out];exact HW.out.2⟩
      |true =>
       have FL:=aB.out;simp only[Bool.and_eq_true]at FL;have IK:=QA (Qj1 HW.out.2 Tw.out (Ķ HTA.out (by rw[DW.out.1];exact FL.1)) (Ķ yX.out (by rw[DW.out.2];exact FL.2)) HKEY.out);have HE:Hid (Zw sa sb (M1 sa sb) (sa.kid 0)=M2):=SD.out;clear FL;go_wp2_with fail;refine IK.out.mono ?_;rintro e w9 ⟨rfl,La,JC⟩;rw[HE.out]at JC;have HN:=QA (And.intro (HW.out.1.trans (La.below HW.out.1.size IC.out.1 IC.out.2)) JC);clear La JC;go_wp2
       go_meet
       case rel=>exact HN
     case rest =>
      obtain⟨w9,ld⟩:∃w9,w9=wc:=⟨_,rfl⟩;subst ld;have rQ:=hcut;clear hcut HW;have II:=QA (Qpt rQ.out.2 Tw.out zi.out.1);have lJ:=J2 Tw.out.nums sa.n M2 0 ω zi.out.1;obtain⟨M3,WT⟩:=Mem.QD (ZJ sa sb sa.n M2 0);rw[WT]at II lJ;have zI:=QA lJ;have uD:=QA WT;have sN:Hid (QQ M3.1 0=false):=((zi.out.2.trans lJ.2).1 _ _ XA.out.2).free;clear lJ WT;go_wp2_with fail;refine II.out.mono ?_;rintro e UT ⟨rfl,Nr,CU⟩;have Sr:=QA (rQ.out.1.trans (Nr.below rQ.out.1.size IC.out.1 IC.out.2));have ze:=QA (Qgo CU Tw.out zI.out.1 sN.out);clear Nr CU II rQ;go_wp2_with fail;refine ze.out.mono ?_;rintro e Na ⟨rfl,kB,CT⟩;have ez:=QA (Sr.out.trans (kB.below Sr.out.size IC.out.1 IC.out.2));have GX:=QA (Qom CT Tw.out);have XB:Hid (Ki (Y9 sa sb M3).1=mt):=by show _=_;rw[qN.out,←uD.out,←SD.out];rfl
      clear kB CT ze;go_wp2_with fail;refine GX.out.mono ?_;rintro e w12 ⟨Ny,v,rfl,hv⟩;rw[XB.out]at hv;have HV:=QA hv;have Q0x:=VO ez Ny;have Il:Hid (w.heap.size≤Na.heap.size):=QW HB.out.size ez.out.size;clear Ny hv GX;go_wp2
      go_ret2
      exact⟨HB.out.trans (Q0x.out.mono HB.out.size),v,by rw[sO.out];rfl,HV.out.more fun b hb=>⟨QW Il.out hb.1,hb.2⟩⟩
   ·have hne:((k:Int) != k')=true:=by simp;exact hkk
    have HE:Hid (mt=[]):=by show _=_;rw[←si.out];unfold Rz;rw[if_neg XO.out,if_pos hkk]
    go_wp2
    go_ret2
    refine⟨HB.out.trans (KF.out.mono HB.out.size),ς none 0 0,by rw[sO.out];rfl,by rw[HE.out];exact G7 _ _⟩
def Mw:F:=.cons 2 ⟨#[112]⟩ ⟨#[]⟩ .nil (.cons 4 ⟨#[97]⟩ ⟨#[]⟩ (.cons 26 ⟨#[49]⟩ ⟨#[]⟩ .nil .nil) (.cons 4 ⟨#[98]⟩ ⟨#[]⟩ (.cons 26 ⟨#[50]⟩ ⟨#[]⟩ .nil .nil) .nil))
def Mv:F:=.cons 2 ⟨#[112]⟩ ⟨#[]⟩ .nil (.cons 4 ⟨#[98]⟩ ⟨#[]⟩ (.cons 26 ⟨#[49]⟩ ⟨#[]⟩ .nil .nil) (.cons 4 ⟨#[97]⟩ ⟨#[]⟩ (.cons 26 ⟨#[49]⟩ ⟨#[]⟩ .nil .nil) .nil))
theorem Qz1:Vl ZZ ZN 1 ⟨#[]⟩ ⟨#[]⟩ Mw=true:=by decide +kernel
theorem Qz0:Vl ZZ ZN 1 ⟨#[]⟩ ⟨#[]⟩ Mv=true:=by decide +kernel
def zL:Option Ky→Option Ky→Bool
 |none,none=>true
 |some (k,x,r),some (k',x',r')=>k==k'&&(x.data.toList==x'.data.toList&&r==r')
 |_,_=>false
theorem Qyh:∀a b:Option Ky,decide (a=b)=zL a b
 |none,none=>by simp[zL]
 |none,some _=>by simp[zL]
 |some _,none=>by simp[zL]
 |some (k,x,r),some (k',x',r')=>by
  have h:(x=x')↔(x.data.toList==x'.data.toList)=true:=by
   rw[beq_iff_eq]
   constructor
   ·intro e;rw[e]
   ·intro e;cases x;cases x'
    simp only at e
    congr
    exact Array.toList_inj.1 e
  simp only[zL,Option.some.injEq,Prod.mk.injEq];rw[Bool.eq_iff_iff];simp only[decide_eq_true_eq,Bool.and_eq_true,beq_iff_eq];rw[h,beq_iff_eq]
def yA(s:Sd)(k:Ky):List Nat:=(s.kid 0).filter fun p=>zL (keyOf s p) (some k)
theorem Qs7(s:Sd)(k:Ky):items s k=yA s k:=by
 unfold items yA
 congr 1
 funext p
 exact Qyh _ _
def yq(a b:Sd):St→List Nat→St
 |M,[]=>M
 |M,x::r=>match keyOf a x with
  |none=>yq a b M r
  |some k=>if(yA a k).length=1∧(yA b k).length=1 then yq a b (QK a b M x ((yA b k).getD 0 0)) r else yq a b M r
theorem pT(a b:Sd):∀(l:List Nat)(M:St),Zw a b M l=yq a b M l
 |[],M=>rfl
 |x::r,M=>by
  unfold Zw yq;cases keyOf a x with
  |none=>exact pT a b r M
  |some k =>
   simp only[Qs7];split
   ·exact pT a b r _
   ·exact pT a b r _
theorem Qz2:Rz 1 ⟨#[]⟩ ⟨#[]⟩ Mw 1 ⟨#[]⟩ ⟨#[]⟩ Mv=[(0,0),(1,1),(2,4),(3,5),(4,2),(5,3)]:=by
 unfold Rz;rw[if_neg δ,if_neg δ,Qz1,Qz0];unfold V4;rw[if_pos (show(true&&true)=true from rfl),pT];decide +kernel
theorem Qtl:Z9 (Zy (one 1 ⟨#[]⟩ ⟨#[]⟩ Mw)) (Zy (one 1 ⟨#[]⟩ ⟨#[]⟩ Mv)) [(0,0),(1,1),(2,4),(3,5),(4,2),(5,3)]=true:=by decide +kernel
theorem Qy4:Yu 6 [(0,0),(1,1),(2,4),(3,5),(4,2),(5,3)]=[0,1,4,5,2,3]:=by decide +kernel
theorem Qtm:Vf (Gl 1 ⟨#[]⟩ ⟨#[]⟩ Mw 1 ⟨#[]⟩ ⟨#[]⟩ Mv):=by
 unfold Gl Mw Mv;simp only[Vf,Hg];decide
theorem Qtk:Zp (Gl 1 ⟨#[]⟩ ⟨#[]⟩ Mw 1 ⟨#[]⟩ ⟨#[]⟩ Mv):=by
 unfold Gl Mw Mv;simp only[Zp];decide
