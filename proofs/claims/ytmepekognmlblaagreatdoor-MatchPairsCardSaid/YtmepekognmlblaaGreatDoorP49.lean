import Derived.Test.YtmepekognmlblaaGreatDoorP46
import Derived.Test.YtmepekognmlblaaGreatDoorP47
import Derived.Test.YtmepekognmlblaaGreatDoorP48
import Derived.Test.YtmepekognmlblaaGreatDoorRows
import Derived.Lib.LaidU8
import Derived.Lib.LaidTab
set_option maxHeartbeats 64000000
set_option maxRecDepth 100000
set_option linter.unusedVariables false
open Go.ChangeShapes Go.WideShapes Go.ChangeAt Go.RowKit Go.Proofs.Tryz
open _root_.Bool renaming and_eq_true→Th
open _root_.List renaming getD_eq_getElem?_getD→QX,getElem?_eq_none→YP,mem_cons→Tg,setIfInBounds_toArray→ZC,set_cons_succ→ZA,set_cons_zero→QZ,getElem?_eq_getElem→QN,getElem?_map→VP
open Go.Lib renaming hid→QA
open _root_.Nat renaming le_trans→QW,zero_add→ZL,lt_of_lt_of_le→VE
open Go.RowKit.Below renaming refl→QE
open Go.Value renaming string→σ,int→ι,slice→ς,pointer→π,bool→τ,agg→ξ
open Go.IntKind renaming i64→γ
open Go.Obj renaming cells→θ
open Go.Ending renaming returned→ρ
namespace Go.Proofs.YtmepekognmlblaaGreatDoor
namespace Match
open Mem Tree Shape
theorem Qfx{nm:ByteArray→Bool}{tk:ByteArray→Int→Bool}:∀(f:F)(pk:Int)(px:ByteArray)(it:Bool)(d i a:Nat)(L rest:List Nd),Kd nm tk pk px it d i f=true→L.drop a=nodes f++rest→∀p∈places a f,∃nd,L[p]?=some nd∧(nd.k=7→0<nd.c.len)
 | .nil,_,_,_,_,_,_,_,_,_,_,p,hp=>by simp[places]at hp
 | .cons k x y c r,pk,px,it,d,i,a,L,rest,hk,hL,p,hp=>by
   simp only[Kd,Th]at hk;obtain⟨⟨⟨_,h1⟩,_⟩,h2⟩:=hk;simp only[nodes]at hL;simp only[places,Tg]at hp;rcases hp with rfl|hp
   ·refine⟨⟨k,x,y,c⟩,?_,fun e=>?_⟩
    ·have:=congrArg (fun l=>l[0]?) hL;simp only[List.getElem?_drop,Nat.add_zero]at this;rw[this];rfl
    ·have e:k=7:=e;subst e;show 0<c.len;cases c with
     |nil=>unfold Ed at h1;simp only[Th]at h1;exact absurd h1.2.2 (by simp[Qc,Qg,Pt.take])
     |cons=>simp[F.len]
   ·refine Qfx r pk px it d (i+1) _ L rest h2 ?_ p hp;have h3:(L.drop a).drop (c.size+1)=(nodes r)++rest:=by
     rw[hL];simp only[List.cons_append,List.append_assoc,List.drop_succ_cons];rw[List.drop_append_of_le_length (by rw[Qj];exact Nat.le_refl _),List.drop_of_length_le (by rw[Qj];exact Nat.le_refl _),List.nil_append]
    rw[List.drop_drop]at h3;first
     |exact h3
     |(rw[show a+(c.size+1)=a+1+c.size by omega]at h3;exact h3)
     |(rw[show a+(c.size+1)=a+c.size+1 by omega]at h3;exact h3)
theorem Yj{s:Sd}{k:Int}{x y:ByteArray}{c:F}(hs:s.T=one k x y c):s.nd[0]?=some ⟨k,x,y,c⟩∧s.nd.drop 1=nodes c++[]:=by
 unfold Sd.nd;rw[hs];exact⟨rfl,rfl⟩
theorem Ţ{nm:ByteArray→Bool}{tk:ByteArray→Int→Bool}{s:Sd}{k:Int}{x y:ByteArray}{c:F}(hs:s.T=one k x y c)(h:Vl nm tk k x y c=true):∀p∈s.kid 0,(s.at_ p).k=7→0<(s.kid p).length:=by
 intro p hp h7;obtain⟨e0,e1⟩:=Yj hs;have hn:0<s.n:=by rw[Sd.GN,hs,Q4];omega
 have GZ:=Z1 p hp;rw[Sd.GR hn,Sd.UM e0]at hp;unfold Vl Vz at h;simp only[Th]at h;obtain⟨nd,h1,h2⟩:=Qfx c k x (holds k) 0 0 1 s.nd [] h.2.2 e1 p hp;rw[Sd.GR GZ,Jc];rw[Sd.UM h1]at h7⊢;exact h2 h7
theorem Yy:∀{f:F},Zp f→∀nd∈nodes f,nd.x.size≤1000000
 | .nil,_,nd,h=>by simp[nodes]at h
 | .cons k x y c r,hs,nd,h=>by
   obtain⟨h1,h2,h3,h4⟩:=hs;simp only[nodes,Tg,List.mem_append]at h;rcases h with rfl|h|h
   ·exact h1
   ·exact Yy h3 nd h
   ·exact Yy h4 nd h
theorem Ua:∀{f:F},Vf f→∀nd∈nodes f,Hg nd.k
 | .nil,_,nd,h=>by simp[nodes]at h
 | .cons k x y c r,hs,nd,h=>by
   obtain⟨h1,h2,h3⟩:=hs;simp only[nodes,Tg,List.mem_append]at h;rcases h with rfl|h|h
   ·exact h1
   ·exact Ua h2 nd h
   ·exact Ua h3 nd h
theorem ŗ(s:Sd)(p:Nat):s.at_ p∈nodes s.T∨s.at_ p=⟨0,.empty,.empty,.nil⟩:=by
 by_cases h:p<s.n
 ·left
  have:=Sd.ZK h;exact List.mem_of_getElem? this
 ·right
  unfold Sd.at_;rw[QX,YP (by unfold Sd.n at h;omega)];rfl
theorem Gd{s:Sd}(h:Zp s.T)(p:Nat):(s.at_ p).x.size≤1000000:=by
 rcases ŗ s p with h1|h1
 ·exact Yy h _ h1
 ·rw[h1];show(0:Nat)≤_;omega
theorem Gq{s:Sd}(h:Vf s.T)(p:Nat):Hg (s.at_ p).k:=by
 rcases ŗ s p with h1|h1
 ·exact Ua h _ h1
 ·rw[h1];unfold Hg;exact⟨by show(-9223372036854775808:Int)≤0;omega,by show(0:Int)≤9223372036854775807;omega⟩
theorem Qfp(L seen:List Nd)(m:Nat)(h:m∈(Qk seen L).1):m<seen.length+L.length:=by
 obtain⟨i,hi,e⟩:=List.mem_iff_getElem.1 h;have:=fU L seen i (by rw[Z0]at hi;exact hi);rw[QX,List.getElem?_eq_getElem hi,e]at this;exact this
theorem Qy2{T T':F}(hT:∃k x y c,T=one k x y c)(hT':∃k x y c,T'=one k x y c)(h1:T.size≤20000)(h2:T'.size≤20000)(hk:Vf T)(hk':Vf T'):Fit (XJ T) (XZ T T'):=by
 have l1:(nodes T).length≤20000:=by rw[Qj];exact h1
 have l2:(nodes T').length≤20000:=by rw[Qj];exact h2
 have l3:=Gh (nodes T) [];rw[List.length_nil]at l3;refine⟨fy hT hT',l1,l2,Z0 _ _,Z0 _ _,fun m hm=>?_,fun m hm=>?_,Gq (s:=XJ T) hk,Gq (s:=XZ T T') hk'⟩
 ·have:=Qfp _ _ m hm;rw[List.length_nil]at this;omega
 ·have:=Qfp _ _ m hm;omega
theorem ř{s:Sd}(h:∀m∈s.ns,m<1000000)(x:Nat):s.no x<1000000:=by
 unfold Sd.no;by_cases hx:x<s.ns.length
 ·rw[QX,List.getElem?_eq_getElem hx];exact h _ (List.getElem_mem _)
 ·rw[QX,YP ω];show(0:Nat)<_;omega
theorem Qwa{a b:Sd}(hf:Fit a b)(ha:Zp a.T)(hb:Zp b.T):∀k∈jW a b,FY k:=by
 intro k hk;rcases List.mem_cons.1 hk with rfl|hk
 ·exact ā
 ·rcases List.mem_append.1 hk with hk|hk
  ·obtain⟨p,_,h⟩:=List.mem_filterMap.1 hk;exact ŕ h (ř hf.fa) (Nat.le_trans (Gd ha p) (by unfold maxLen;omega)) (hf.ka p)
  ·obtain⟨p,_,h⟩:=List.mem_filterMap.1 hk;exact ŕ h (ř hf.fb) (Nat.le_trans (Gd hb p) (by unfold maxLen;omega)) (hf.kb p)
def Rz(k:Int)(x y:ByteArray)(c:F)(k':Int)(x' y':ByteArray)(c':F):List P2 :=
 if 20000≤c.size∨20000≤c'.size then[]else if k≠k' then[]else
 Ki (V4 (XJ (one k x y c)) (XZ (one k x y c) (one k' x' y' c')) (Vl ZZ ZN k x y c&&Vl ZZ ZN k' x' y' c')).1
def ę(w:World)(er:Int)(L:List P2)(e:Ending)(w':World):Prop:=Below w.heap.size w w'∧∃v,e=ρ (.tuple #[v,ι γ er])∧Qm w' (In w.heap.size w'.heap.size) v L
theorem G7(w:World)(S:Nat→Prop):Qm w S (ς none 0 0) []:=⟨none,0,rfl,Nat.le_refl _,by unfold maxLen;omega,.inl rfl⟩
theorem Qy(k:Int)(x y:ByteArray)(A:Option Addr)(n C:Nat)(c:F)(k':Int)(x' y':ByteArray)(A':Option Addr)(n' C':Nat)(c':F)(w:World)(hp:Pow w)(hT:Lex.XF w)(hf:Fs w (Lo w.heap.size) (ς A n C) c)(hf':Fs w (Lo w.heap.size) (ς A' n' C') c')
 (hc:c.size≤45000) (hc':c'.size≤45000) (hsm:c.size<20000→∀i,Xc (Zt (one k x y c)) i≤4194304) (CD:c'.size<20000→∀i,Xc (Zt (one k' x' y' c')) i≤4194304) (hs:Zp (Gl k x y c k' x' y' c')) (hk:Vf (Gl k x y c k' x' y' c')) :
 Calls Tryz.prog 12 #[ξ #[ι γ k,σ x,σ y,ς A n C],ξ #[ι γ k',σ x',σ y',ς A' n' C']] w (ę w (if 20000≤c.size∨20000≤c'.size then 2 else 0) (Rz k x y c k' x' y' c')):=by
 have b1:=Qz w (θ #[ι γ k,σ x,σ y,ς A n C] 24);have q:=J6 w k x y (ς A n C);have b2:=Qz (w.alloc (θ #[ι γ k,σ x,σ y,ς A n C] 24)) (θ #[ι γ k',σ x',σ y',ς A' n' C'] 24);have q':=J6 (w.alloc (θ #[ι γ k,σ x,σ y,ς A n C] 24)) k' x' y' (ς A' n' C');have e1:(w.alloc (θ #[ι γ k,σ x,σ y,ς A n C] 24)).heap.size=w.heap.size+1:=ψ
 rw[e1]at q';have HB:=QA (b1.trans (b2.mono b1.size));have Po:Hid (∀W,Below ((w.alloc (θ #[ι γ k,σ x,σ y,ς A n C] 24)).alloc (θ #[ι γ k',σ x',σ y',ς A' n' C'] 24)).heap.size ((w.alloc (θ #[ι γ k,σ x,σ y,ς A n C] 24)).alloc (θ #[ι γ k',σ x',σ y',ς A' n' C'] 24)) W→_):=fun W hW=>q W (b2.trans (hW.mono b2.size))
 have Pn:=QA q';have LK:=QA ((hf.later b1).later b2);have XY:=QA ((hf'.later b1).later b2);have HP:=QA (hp.on (b1.trans (b2.mono b1.size)));have Dw:=hT.below (b1.trans (b2.mono b1.size)) hT.pos;have NL:=QA Dw;have HC:=QA (And.intro hc hc');have Tq:=QA (And.intro hsm CD);have PZ:=QA (And.intro hs hk);obtain⟨r0,r1,r2,r3⟩:=Po.out _ (Below.refl _ _);obtain⟨s0,s1,s2,s3⟩:=Pn.out _ (Below.refl _ _);have vM:=QA (ž c.size k x y A n C c _ (Nat.le_refl _) ω LK.out);obtain⟨er,her⟩:∃er:Int,(if 20000≤c.size∨20000≤c'.size then 2 else 0)=er:=⟨_,rfl⟩;obtain⟨mt,RM⟩:=Mem.QD (Rz k x y c k' x' y' c');have wT:=QA her;have si:=QA RM;rw[her,RM];have BA:Hid (w.heap.size+1<((w.alloc (θ #[ι γ k,σ x,σ y,ς A n C] 24)).alloc (θ #[ι γ k',σ x',σ y',ς A' n' C'] 24)).heap.size):=by show _<_;simp
 obtain⟨z0,hz0⟩:=Mem.QD (c.size+1);obtain⟨z1,hz1⟩:=Mem.QD (c'.size+1);have Q12:z0≤45001:=ω
 have Q11:z1≤45001:=ω
 have HZ:=QA (And.intro hz0 hz1);rw[hz0]at vM;clear e1 b1 b2 q q' hp hf hf' hc hc' hsm CD hs hk hT Dw her RM hz0;go_enter Tryz.func12,Tryz.ntmps12;go_wp2_with fail;refine c₁ vM.out fun w3 hb3=>?_;have VG:=QA hb3;clear vM r0 r1 r2 r3 s0 s1 s2 s3;obtain⟨r0,r1,r2,r3⟩:=Po.out w3 hb3;obtain⟨s0,s1,s2,s3⟩:=Pn.out w3 hb3;have oG:=QA (ž c'.size k' x' y' A' n' C' c' w3 (Nat.le_refl _) (by have:=HC.out;omega) (XY.out.later hb3));rw[hz1]at oG;clear hb3 hz1;by_cases hbig:20000<z0
 ·have RQ:(20000:Int)<(z0:Int):=ω
  have HE:Hid (er=2∧mt=[]):=⟨by rw[←wT.out,if_pos (.inl (by have:=HZ.out;omega))],by rw[←si.out];unfold Rz;rw[if_pos (.inl (by have:=HZ.out;omega))]⟩;go_wp2
  go_ret2
  refine⟨HB.out.trans (VG.out.mono HB.out.size),ς none 0 0,by rw[HE.out.1];rfl,by rw[HE.out.2];exact G7 _ _⟩
 ·have RQ:¬(20000:Int)<(z0:Int):=ω
  go_wp2_with fail;refine c₁ oG.out fun w4 hb4=>?_;have KF:=VO VG hb4;clear oG r0 r1 r2 r3 s0 s1 s2 s3 hb4;obtain⟨r0,r1,r2,r3⟩:=Po.out w4 KF.out;obtain⟨s0,s1,s2,s3⟩:=Pn.out w4 KF.out;by_cases Q1u:20000<z1
  ·have WN:(20000:Int)<(z1:Int):=ω
   have HE:Hid (er=2∧mt=[]):=⟨by rw[←wT.out,if_pos (.inr (by have:=HZ.out;omega))],by rw[←si.out];unfold Rz;rw[if_pos (.inr (by have:=HZ.out;omega))]⟩;go_wp2
   go_ret2
   refine⟨HB.out.trans (KF.out.mono HB.out.size),ς none 0 0,by rw[HE.out.1];rfl,by rw[HE.out.2];exact G7 _ _⟩
  ·have WN:¬(20000:Int)<(z1:Int):=ω
   have hsz:¬(20000≤c.size∨20000≤c'.size):=by have:=HZ.out;omega
   have XO:=QA hsz;have sO:Hid (er=0):=by show _=_;rw[←wT.out,if_neg hsz]
   clear hsz;by_cases hkk:k=k'
   ·subst hkk;have hne:((k:Int) != k)=false:=ψ
    have HBG:=QA (Jj k x y A n C c k x' y' A' n' C' c' w4 (HP.out.on KF.out) (LK.out.later KF.out) (XY.out.later KF.out) (by have:=XO.out;omega) (by have:=XO.out;omega) (Tq.out.1 (by have:=XO.out;omega)) (Tq.out.2 (by have:=XO.out;omega)) PZ.out.1 PZ.out.2);go_wp2_with fail;refine HBG.out.mono ?_;rintro e w5 ⟨Y',g,gA,gB,S,rfl,⟨Ol,Mg⟩,KL⟩;obtain⟨sa,hsa⟩:=Mem.QD (XJ (one k x y c));obtain⟨sb,Hw⟩:=Mem.QD (XZ (one k x y c) (one k x' y' c'));have hfit:=Qy2 (T:=one k x y c) (T':=one k x' y' c') ⟨k,x,y,c,rfl⟩ ⟨k,x',y',c',rfl⟩ (by rw[Q4];have:=XO.out;omega) (by rw[Q4];have:=XO.out;omega) ⟨PZ.out.2.1,PZ.out.2.2.1,trivial⟩ PZ.out.2.2.2;have De:=Qwa hfit (show Zp (one k x y c)from⟨PZ.out.1.1,PZ.out.1.2.1,PZ.out.1.2.2.1,trivial⟩) (show Zp (one k x' y' c')from PZ.out.1.2.2.2);have xZ:sa.T=one k x y c:=by rw[←hsa];rfl
    have xY:sb.T=one k x' y' c':=by rw[←Hw];rfl
    have hkr:(sa.at_ 0).k=(sb.at_ 0).k:=by rw[Sd.UM (Yj xZ).1,Sd.UM (Yj xY).1]
    rw[hsa,Hw]at KL hfit De;have Tw:=QA hfit;have HKEY:=QA De;have HTA:=QA xZ;have yX:=QA xY;obtain⟨hinv,zP⟩:=yw hfit.nums hkr;have XA:=QA (And.intro hinv zP);have JL:=QA KL;have LO:=VO KF Y';have IC:Hid (((w.alloc (θ #[ι γ k,σ x,σ y,ς A n C] 24)).alloc (θ #[ι γ k,σ x',σ y',ς A' n' C'] 24)).heap.size≤gA∧((w.alloc (θ #[ι γ k,σ x,σ y,ς A n C] 24)).alloc (θ #[ι γ k,σ x',σ y',ς A' n' C'] 24)).heap.size≤gB):=⟨QW KF.out.size Ol,QW KF.out.size Mg⟩;have Rb:=QA (J9 KL hfit 0 0 hfit.nums.EG.pos hfit.nums.Hq.pos);have qN:Hid (mt=Ki (V4 sa sb (Vl ZZ ZN k x y c&&Vl ZZ ZN k x' y' c')).1):=by show _=_;rw[←si.out];unfold Rz;rw[if_neg XO.out,if_neg ψ,hsa,Hw]
    clear HBG hfit De xZ xY hkr hinv zP KL Y' Ol Mg hsa Hw r0 r1 r2 r3 s0 s1 s2 s3;go_wp2_with fail;refine Rb.out.mono ?_;rintro e w6 ⟨rfl,Sv,TH⟩;obtain⟨w2,hw2⟩:∃w2,((w.alloc (θ #[ι γ k,σ x,σ y,ς A n C] 24)).alloc (θ #[ι γ k,σ x',σ y',ς A' n' C'] 24))=w2:=⟨_,rfl⟩;rw[hw2]at HB Po Pn LK XY HP NL VG KF LO IC BA;have GG:=QA (LO.out.trans (Sv.below LO.out.size IC.out.1 IC.out.2));have qZ:Hid (MS w6 S g gA gB sa sb (M1 sa sb)):=TH;have VN:=Qff k x y A n C c w6 (LK.out.later GG.out) PZ.out.1.1 PZ.out.1.2.1 PZ.out.1.2.2.1 (NL.out.below GG.out NL.out.pos);obtain⟨tG,Fp⟩:∃r,Vl ZZ ZN k x y c=r:=⟨_,rfl⟩;obtain⟨O3,Q3v⟩:∃r,Vl ZZ ZN k x' y' c'=r:=⟨_,rfl⟩;have DW:=QA (And.intro Fp Q3v);rw[Fp]at VN;have P':=QA VN;rw[Fp,Q3v]at qN;obtain⟨r0,r1,r2,r3⟩:=Po.out w6 GG.out;clear Sv TH JL Rb VN Fp Q3v hw2 HZ
    go_upto_region 7 with(fail)
    go_cut [30]from 25 to 30 (fun s W=>s=τ (tG&&O3)∧Hid (Below w2.heap.size w2 W∧MS W S g gA gB sa sb (M1 sa sb)))
    case first =>
     go_wp2_with fail;refine c₁ P'.out fun w7 VL=>?_;have UG:=VO GG VL;have Iw:=QA (qZ.out.later VL);clear VL P' r0 r1 r2 r3;cases tG with
     |false =>
      go_wp2
      go_meet
      case rel=>exact⟨rfl,UG.out,Iw.out⟩
     |true =>
      have hr1:=Qff k x' y' A' n' C' c' w7 (XY.out.later UG.out) PZ.out.1.2.2.2.1 PZ.out.1.2.2.2.2.1 PZ.out.1.2.2.2.2.2.1 (NL.out.below UG.out NL.out.pos);rw[DW.out.2]at hr1;have XQ:=QA hr1;obtain⟨s0,s1,s2,s3⟩:=Pn.out w7 UG.out;clear hr1;go_wp2_with fail;refine c₁ XQ.out fun w8 YJ=>?_;have Hm:=VO UG YJ;have uC:=QA (Iw.out.later YJ);clear YJ XQ s0 s1 s2 s3;go_wp2
      go_meet
      case rel=>exact⟨rfl,Hm.out,uC.out⟩
    case rest =>
     obtain⟨rfl,HW⟩:=hcut;obtain⟨w8,AR⟩:∃w8,w8=wc:=⟨_,rfl⟩;subst AR;clear P' r0 r1 r2 r3 qZ GG;obtain⟨rt,hrt⟩:=Mem.QD ((tG&&O3));have aB:=QA hrt;rw[hrt]at qN⊢;obtain⟨M2,Mn⟩:=Mem.QD ((if rt then Zw sa sb (M1 sa sb) (sa.kid 0)else M1 sa sb));have SD:=QA Mn;have xc:Inv sa sb M2∧Ext (M1 sa sb) M2:=by
      rw[←Mn];cases rt with
      |false=>exact⟨XA.out.1,Ext.refl _⟩
      |true =>
       have hkr:(sa.at_ 0).k=(sb.at_ 0).k:=by rw[Sd.UM (Yj HTA.out).1,Sd.UM (Yj yX.out).1]
       have:=Gy Tw.out.nums (sa.kid 0) (M1 sa sb) XA.out.1 (iU sa 0) fun x hx=>⟨hx,bX Tw.out.nums hkr hx⟩
       exact⟨this.1,this.2.1⟩
     have zi:=QA xc;clear hrt Mn xc
     go_upto_if 30 with(fail)
     go_cut []from 31 to 32 (fun W=>Hid (Below w2.heap.size w2 W∧MS W S g gA gB sa sb M2))
     case first =>
      cases rt with
      |false =>
       have HE:Hid (M1 sa sb=M2):=SD.out;go_wp2
       go_meet
       case rel=>exact⟨HW.out.1,by rw[←HE.out];exact HW.out.2⟩
      |true =>
       have FL:=aB.out;simp only[Bool.and_eq_true]at FL;have IK:=QA (Qj1 HW.out.2 Tw.out (Ţ HTA.out (by rw[DW.out.1];exact FL.1)) (Ţ yX.out (by rw[DW.out.2];exact FL.2)) HKEY.out);have HE:Hid (Zw sa sb (M1 sa sb) (sa.kid 0)=M2):=SD.out;clear FL;go_wp2_with fail;refine IK.out.mono ?_;rintro e w9 ⟨rfl,La,JC⟩;rw[HE.out]at JC;have HN:=QA (And.intro (HW.out.1.trans (La.below HW.out.1.size IC.out.1 IC.out.2)) JC);clear La JC;go_wp2
       go_meet
       case rel=>exact HN
     case rest =>
      obtain⟨w9,ld⟩:∃w9,w9=wc:=⟨_,rfl⟩;subst ld;have rQ:=hcut;clear hcut HW;have II:=QA (Qpt rQ.out.2 Tw.out zi.out.1);have lJ:=J2 Tw.out.nums sa.n M2 0 ω zi.out.1;obtain⟨M3,WT⟩:=Mem.QD (ZJ sa sb sa.n M2 0);rw[WT]at II lJ;have zI:=QA lJ;have uD:=QA WT;have sN:Hid (QQ M3.1 0=false):=((zi.out.2.trans lJ.2).1 _ _ XA.out.2).free;clear lJ WT;go_wp2_with fail;refine II.out.mono ?_;rintro e UT ⟨rfl,Nr,CU⟩;have Sr:=QA (rQ.out.1.trans (Nr.below rQ.out.1.size IC.out.1 IC.out.2));have ze:=QA (Qgo CU Tw.out zI.out.1 sN.out);clear Nr CU II rQ;go_wp2_with fail;refine ze.out.mono ?_;rintro e Na ⟨rfl,kB,CT⟩;have ez:=QA (Sr.out.trans (kB.below Sr.out.size IC.out.1 IC.out.2));have GX:=QA (Qom CT Tw.out);have XB:Hid (Ki (Y9 sa sb M3).1=mt):=by show _=_;rw[qN.out,←uD.out,←SD.out];rfl
      clear kB CT ze;go_wp2_with fail;refine GX.out.mono ?_;rintro e w12 ⟨Ny,v,rfl,hv⟩;rw[XB.out]at hv;have HV:=QA hv;have Q0x:=VO ez Ny;have Il:Hid (w.heap.size≤Na.heap.size):=QW HB.out.size ez.out.size;clear Ny hv GX;go_wp2
      go_ret2
      exact⟨HB.out.trans (Q0x.out.mono HB.out.size),v,by rw[sO.out];rfl,HV.out.more fun b hb=>⟨QW Il.out hb.1,hb.2⟩⟩
   ·have hne:((k:Int) != k')=true:=by simp;exact hkk
    have HE:Hid (mt=[]):=by show _=_;rw[←si.out];unfold Rz;rw[if_neg XO.out,if_pos hkk]
    go_wp2
    go_ret2
    refine⟨HB.out.trans (KF.out.mono HB.out.size),ς none 0 0,by rw[sO.out];rfl,by rw[HE.out];exact G7 _ _⟩
def Mw:F:=.cons 2 ⟨#[112]⟩ ⟨#[]⟩ .nil (.cons 4 ⟨#[97]⟩ ⟨#[]⟩ (.cons 26 ⟨#[49]⟩ ⟨#[]⟩ .nil .nil) (.cons 4 ⟨#[98]⟩ ⟨#[]⟩ (.cons 26 ⟨#[50]⟩ ⟨#[]⟩ .nil .nil) .nil))
def Mv:F:=.cons 2 ⟨#[112]⟩ ⟨#[]⟩ .nil (.cons 4 ⟨#[98]⟩ ⟨#[]⟩ (.cons 26 ⟨#[49]⟩ ⟨#[]⟩ .nil .nil) (.cons 4 ⟨#[97]⟩ ⟨#[]⟩ (.cons 26 ⟨#[49]⟩ ⟨#[]⟩ .nil .nil) .nil))
theorem Qz1:Vl ZZ ZN 1 ⟨#[]⟩ ⟨#[]⟩ Mw=true:=by decide +kernel
theorem Qz0:Vl ZZ ZN 1 ⟨#[]⟩ ⟨#[]⟩ Mv=true:=by decide +kernel
def zL:Option Ky→Option Ky→Bool
 |none,none=>true
 |some (k,x,r),some (k',x',r')=>k==k'&&(x.data.toList==x'.data.toList&&r==r')
 |_,_=>false
theorem Qyh:∀a b:Option Ky,decide (a=b)=zL a b
 |none,none=>by simp[zL]
 |none,some _=>by simp[zL]
 |some _,none=>by simp[zL]
 |some (k,x,r),some (k',x',r')=>by
  have h:(x=x')↔(x.data.toList==x'.data.toList)=true:=by
   rw[beq_iff_eq]
   constructor
   ·intro e;rw[e]
   ·intro e;cases x;cases x'
    simp only at e
    congr
    exact Array.toList_inj.1 e
  simp only[zL,Option.some.injEq,Prod.mk.injEq];rw[Bool.eq_iff_iff];simp only[decide_eq_true_eq,Bool.and_eq_true,beq_iff_eq];rw[h,beq_iff_eq]
def yA(s:Sd)(k:Ky):List Nat:=(s.kid 0).filter fun p=>zL (keyOf s p) (some k)
theorem Qs7(s:Sd)(k:Ky):items s k=yA s k:=by
 unfold items yA
 congr 1
 funext p
 exact Qyh _ _
def yq(a b:Sd):St→List Nat→St
 |M,[]=>M
 |M,x::r=>match keyOf a x with
  |none=>yq a b M r
  |some k=>if(yA a k).length=1∧(yA b k).length=1 then yq a b (QK a b M x ((yA b k).getD 0 0)) r else yq a b M r
theorem pT(a b:Sd):∀(l:List Nat)(M:St),Zw a b M l=yq a b M l
 |[],M=>rfl
 |x::r,M=>by
  unfold Zw yq;cases keyOf a x with
  |none=>exact pT a b r M
  |some k =>
   simp only[Qs7];split
   ·exact pT a b r _
   ·exact pT a b r _
theorem Qz2:Rz 1 ⟨#[]⟩ ⟨#[]⟩ Mw 1 ⟨#[]⟩ ⟨#[]⟩ Mv=[(0,0),(1,1),(2,4),(3,5),(4,2),(5,3)]:=by
 unfold Rz;rw[if_neg δ,if_neg δ,Qz1,Qz0];unfold V4;rw[if_pos (show(true&&true)=true from rfl),pT];decide +kernel
theorem Qtl:Z9 (Zy (one 1 ⟨#[]⟩ ⟨#[]⟩ Mw)) (Zy (one 1 ⟨#[]⟩ ⟨#[]⟩ Mv)) [(0,0),(1,1),(2,4),(3,5),(4,2),(5,3)]=true:=by decide +kernel
theorem Qy4:Yu 6 [(0,0),(1,1),(2,4),(3,5),(4,2),(5,3)]=[0,1,4,5,2,3]:=by decide +kernel
theorem Qtm:Vf (Gl 1 ⟨#[]⟩ ⟨#[]⟩ Mw 1 ⟨#[]⟩ ⟨#[]⟩ Mv):=by
 unfold Gl Mw Mv;simp only[Vf,Hg];decide
theorem Qtk:Zp (Gl 1 ⟨#[]⟩ ⟨#[]⟩ Mw 1 ⟨#[]⟩ ⟨#[]⟩ Mv):=by
 unfold Gl Mw Mv;simp only[Zp];decide
theorem fD{k:Int}{x y:ByteArray}{c:F}{k':Int}{x' y':ByteArray}{c':F}(h:k≠k'):Rz k x y c k' x' y' c'=[]:=by
 unfold Rz;split
 ·rfl
 ·first|rfl|rw[if_pos h]
theorem Qw9{k:Int}{x y:ByteArray}{c:F}{x' y':ByteArray}{c':F}(h:c.size<20000)(h':c'.size<20000):Rz k x y c k x' y' c'=Ki (V4 (XJ (one k x y c)) (XZ (one k x y c) (one k x' y' c')) (Vl ZZ ZN k x y c&&Vl ZZ ZN k x' y' c')).1:=by
 unfold Rz;rw[if_neg ω,if_neg ψ]
theorem Qks(k:Int)(x y:ByteArray)(c:F)(x' y':ByteArray)(c':F):((XJ (one k x y c)).at_ 0).k=((XZ (one k x y c) (one k x' y' c')).at_ 0).k:=by
 rw[Sd.UM (Yj (s:=XJ (one k x y c)) rfl).1,Sd.UM (Yj (s:=XZ (one k x y c) (one k x' y' c')) rfl).1]
theorem Qsh(k:Int)(x y:ByteArray)(c:F)(x' y':ByteArray)(c':F):ZM (XJ (one k x y c)) (XZ (one k x y c) (one k x' y' c')):=fy ⟨_,_,_,_,rfl⟩ ⟨_,_,_,_,rfl⟩
theorem ó{k:Int}{x y:ByteArray}{c:F}{x' y':ByteArray}{c':F}(h:c.size<20000)(h':c'.size<20000):Z9 (Zy (one k x y c)) (Zy (one k x' y' c')) (Rz k x y c k x' y' c')=true:=by
 rw[Qw9 h h'];have hn:=Qsh k x y c x' y' c';have hk:=Qks k x y c x' y' c';have hd:=Qfn hn hk (Vl ZZ ZN k x y c&&Vl ZZ ZN k x' y' c');exact Qih hd.1 ((Qss hn hk _).1 _ _ (yw hn hk).2)
def NZ:F→Prop
 | .nil=>True
 | .cons k x y c r=>k≠0∧NZ c∧NZ r
theorem Fs.off{w:World}{S:Nat→Prop}{g:Nat}{T:TypeId}(hg:w.heap[g]? = some (θ #[ι γ 0,σ ⟨#[]⟩,σ ⟨#[]⟩,ς none 0 0] T (0,0))):∀{f:F}{v:Value},Fs w S v f→NZ f→Fs w (fun b=>S b∧b≠g) v f
 | .nil,v,h,_=>h
 | .cons k x y c r,v,⟨b,off,n,C,s,e,h1,h2,h3,hS,c0,c1,c2,c3,hk,hr⟩,⟨z0,z1,z2⟩ =>
   ⟨b,off,n,C,s,e,h1,h2,h3,⟨hS,fun q=>by
    subst q;have h:=c0;simp only[World.cell?,hg]at h;rcases off with _|_|_|_|off <;> simp at h
    exact z0 h.symm⟩,c0,c1,c2,c3,Fs.off hg hk z1,fun A' hA=>Fs.off hg (hr A' hA) z2⟩
def Oy(s1 s2:ByteArray)(c1 c2:F):F:=.cons 4 s1 ⟨#[]⟩ c1 (.cons 4 s2 ⟨#[]⟩ c2 .nil)
structure FV(w0:World)(u0 u2:Value)(s1 s2:ByteArray)(c1 c2:F)(L:Nat→Bool)(x:Nat→Value)(W:World):Prop where
 QF:Below w0.heap.size w0 W
 e0:L 0=true→x 0=u0
 e1:L 1=true→L 7=false→Xp W (x 1) 4 s1 c1
 e2:L 2=true→x 2=u2
 e3:L 3=true→L 7=false→Xp W (x 3) 4 s2 c2
 e4:L 4=true→L 7=false→∃g,x 4=ς (some ⟨g,0,none⟩) 2 2∧Fs W (Lo W.heap.size) (ς (some ⟨g,0,none⟩) 2 2) (Oy s1 s2 c1 c2)
 e5:L 5=true→L 7=false→Xp W (x 5) 1 ⟨#[]⟩ (.cons 2 ⟨#[112]⟩ ⟨#[]⟩ .nil (Oy s1 s2 c1 c2))
 e6:L 6=true→L 7=false→∃g,x 6=π (some ⟨g,0,none⟩)∧w0.heap.size≤g∧W.heap[g]?=some (θ #[ι γ 0,σ ⟨#[]⟩,σ ⟨#[]⟩,ς none 0 0] 24 (0,0))
 e7:L 7=true→∃g A n C,x 6=π (some ⟨g,0,none⟩)∧w0.heap.size≤g∧W.heap[g]?=some (θ #[ι γ 1,σ ⟨#[]⟩,σ ⟨#[]⟩,ς A n C] 24 (0,0))∧Fs W (Lo W.heap.size) (ς A n C) (.cons 2 ⟨#[112]⟩ ⟨#[]⟩ .nil (Oy s1 s2 c1 c2))
section
variable {w0 W W':World}{u0 u2:Value}{s1 s2:ByteArray}{c1 c2:F}{L:Nat→Bool}{x:Nat→Value}
theorem FV.start:FV w0 u0 u2 s1 s2 c1 c2 (fun _=>false) x w0.drew :=
 ⟨⟨rfl,rfl,rfl,Nat.le_refl _,fun _ _=>rfl⟩,fun h=>(by cases h),fun h=>(by cases h),fun h=>(by cases h),fun h=>(by cases h),fun h=>(by cases h),fun h=>(by cases h),fun h=>(by cases h),fun h=>(by cases h)⟩
theorem FV.later(h:FV w0 u0 u2 s1 s2 c1 c2 L x W)(hb:Below W.heap.size W W'):FV w0 u0 u2 s1 s2 c1 c2 L x W':=by
 have hk:∀(k:Nat)(o:Obj),W.heap[k]?=some o→W'.heap[k]?=some o:=fun k o e=>(hb.block k (Array.getElem?_eq_some_iff.1 e).1).trans e
 refine⟨h.QF.trans (hb.mono h.QF.size),h.e0,fun q p=>(h.e1 q p).later hb,h.e2,fun q p=>(h.e3 q p).later hb,fun q p=>?_,fun q p=>(h.e5 q p).later hb,fun q p=>?_,fun q=>?_⟩
 ·obtain⟨g,q1,q2⟩:=h.e4 q p;exact⟨g,q1,q2.later hb⟩
 ·obtain⟨g,q1,q2,q3⟩:=h.e6 q p;exact⟨g,q1,q2,hk _ _ q3⟩
 ·obtain⟨g,A,n,C,q1,q2,q3,q4⟩:=h.e7 q;exact⟨g,A,n,C,q1,q2,hk _ _ q3,q4.later hb⟩
theorem FV.Fa(h:FV w0 u0 u2 s1 s2 c1 c2 L x W)(h7:L 7=false):FV w0 u0 u2 s1 s2 c1 c2 (Zh L 0) (Qq x 0 u0) W:=by
 refine⟨h.QF,?_,?_,?_,?_,?_,?_,?_,?_⟩ <;> simp only[Zh,Qq] <;> intro q
 ·exact rfl
 ·exact h.e1 q
 ·exact h.e2 q
 ·exact h.e3 q
 ·exact h.e4 q
 ·exact h.e5 q
 ·exact h.e6 q
 ·simp[h7]at q
theorem FV.EW{v:Value}(h:FV w0 u0 u2 s1 s2 c1 c2 L x W)(h7:L 7=false)(hv:Xp W v 4 s1 c1):FV w0 u0 u2 s1 s2 c1 c2 (Zh L 1) (Qq x 1 v) W:=by
 refine⟨h.QF,?_,?_,?_,?_,?_,?_,?_,?_⟩ <;> simp only[Zh,Qq] <;> intro q
 ·exact h.e0 q
 ·exact fun _=>hv
 ·exact h.e2 q
 ·exact h.e3 q
 ·exact h.e4 q
 ·exact h.e5 q
 ·exact h.e6 q
 ·simp[h7]at q
theorem FV.Nc(h:FV w0 u0 u2 s1 s2 c1 c2 L x W)(h7:L 7=false):FV w0 u0 u2 s1 s2 c1 c2 (Zh L 2) (Qq x 2 u2) W:=by
 refine⟨h.QF,?_,?_,?_,?_,?_,?_,?_,?_⟩ <;> simp only[Zh,Qq] <;> intro q
 ·exact h.e0 q
 ·exact h.e1 q
 ·exact rfl
 ·exact h.e3 q
 ·exact h.e4 q
 ·exact h.e5 q
 ·exact h.e6 q
 ·simp[h7]at q
theorem FV.BZ{v:Value}(h:FV w0 u0 u2 s1 s2 c1 c2 L x W)(h7:L 7=false)(hv:Xp W v 4 s2 c2):FV w0 u0 u2 s1 s2 c1 c2 (Zh L 3) (Qq x 3 v) W:=by
 refine⟨h.QF,?_,?_,?_,?_,?_,?_,?_,?_⟩ <;> simp only[Zh,Qq] <;> intro q
 ·exact h.e0 q
 ·exact h.e1 q
 ·exact h.e2 q
 ·exact fun _=>hv
 ·exact h.e4 q
 ·exact h.e5 q
 ·exact h.e6 q
 ·simp[h7]at q
theorem FV.KD{g:Nat}(h:FV w0 u0 u2 s1 s2 c1 c2 L x W)(h7:L 7=false)(hv:Fs W (Lo W.heap.size) (ς (some ⟨g,0,none⟩) 2 2) (Oy s1 s2 c1 c2)):FV w0 u0 u2 s1 s2 c1 c2 (Zh L 4) (Qq x 4 (ς (some ⟨g,0,none⟩) 2 2)) W:=by
 refine⟨h.QF,?_,?_,?_,?_,?_,?_,?_,?_⟩ <;> simp only[Zh,Qq] <;> intro q
 ·exact h.e0 q
 ·exact h.e1 q
 ·exact h.e2 q
 ·exact h.e3 q
 ·exact fun _=>⟨g,rfl,hv⟩
 ·exact h.e5 q
 ·exact h.e6 q
 ·simp[h7]at q
theorem FV.BX{v:Value}(h:FV w0 u0 u2 s1 s2 c1 c2 L x W)(h7:L 7=false)(hv:Xp W v 1 ⟨#[]⟩ (.cons 2 ⟨#[112]⟩ ⟨#[]⟩ .nil (Oy s1 s2 c1 c2))):FV w0 u0 u2 s1 s2 c1 c2 (Zh L 5) (Qq x 5 v) W:=by
 refine⟨h.QF,?_,?_,?_,?_,?_,?_,?_,?_⟩ <;> simp only[Zh,Qq] <;> intro q
 ·exact h.e0 q
 ·exact h.e1 q
 ·exact h.e2 q
 ·exact h.e3 q
 ·exact h.e4 q
 ·exact fun _=>hv
 ·exact h.e6 q
 ·simp[h7]at q
theorem FV.BW{g:Nat}(h:FV w0 u0 u2 s1 s2 c1 c2 L x W)(h7:L 7=false)(hg:w0.heap.size≤g)(hv:W.heap[g]?=some (θ #[ι γ 0,σ ⟨#[]⟩,σ ⟨#[]⟩,ς none 0 0] 24 (0,0))):FV w0 u0 u2 s1 s2 c1 c2 (Zh L 6) (Qq x 6 (π (some ⟨g,0,none⟩))) W:=by
 refine⟨h.QF,?_,?_,?_,?_,?_,?_,?_,?_⟩ <;> simp only[Zh,Qq] <;> intro q
 ·exact h.e0 q
 ·exact h.e1 q
 ·exact h.e2 q
 ·exact h.e3 q
 ·exact h.e4 q
 ·exact h.e5 q
 ·exact fun _=>⟨g,rfl,hg,hv⟩
 ·simp[h7]at q
theorem FV.jC{g n C:Nat}{A:Option Addr}{v:Value}(h:FV w0 u0 u2 s1 s2 c1 c2 L x W)(hx:x 6=π (some ⟨g,0,none⟩))(hg:w0.heap.size≤g)(h0:L 0=true)(h2:L 2=true)(hw:W'.heap[g]?=some (θ #[ι γ 1,σ ⟨#[]⟩,σ ⟨#[]⟩,ς A n C] 24 (0,0)))(hf:Fs W' (Lo W'.heap.size) (ς A n C) (.cons 2 ⟨#[112]⟩ ⟨#[]⟩ .nil (Oy s1 s2 c1 c2)))(hb:Below w0.heap.size W W'):FV w0 u0 u2 s1 s2 c1 c2 (Zh L 7) (Qq x 7 v) W':=by
 refine⟨h.QF.trans hb,?_,?_,?_,?_,?_,?_,?_,?_⟩ <;> simp only[Zh,Qq] <;> intro q
 ·exact h.e0 q
 ·intro p;cases p
 ·exact h.e2 q
 ·intro p;cases p
 ·intro p;cases p
 ·intro p;cases p
 ·intro p;cases p
 ·exact⟨g,A,n,C,hx,hg,hw,hf⟩
end
theorem Uu(w:World)(hP:Pow w)(hT:Lex.XF w):Calls Tryz.prog 11 #[] w fun e w'=>e = ρ (τ true)∧Below w.heap.size w w':=by
 have b1:=Qz w (θ #[ι γ 26,σ ⟨#[49]⟩,σ ⟨#[]⟩,ς none 0 0] 24);have q:=J6 w 26 ⟨#[49]⟩ ⟨#[]⟩ (ς none 0 0);have b2:=Qz (w.alloc (θ #[ι γ 26,σ ⟨#[49]⟩,σ ⟨#[]⟩,ς none 0 0] 24)) (θ #[ι γ 26,σ ⟨#[50]⟩,σ ⟨#[]⟩,ς none 0 0] 24);have q':=J6 (w.alloc (θ #[ι γ 26,σ ⟨#[49]⟩,σ ⟨#[]⟩,ς none 0 0] 24)) 26 ⟨#[50]⟩ ⟨#[]⟩ (ς none 0 0);have e1:(w.alloc (θ #[ι γ 26,σ ⟨#[49]⟩,σ ⟨#[]⟩,ς none 0 0] 24)).heap.size=w.heap.size+1:=ψ
 rw[e1]at q';have HB:=QA (b1.trans (b2.mono b1.size));have Po:Hid (∀W,Below ((w.alloc (θ #[ι γ 26,σ ⟨#[49]⟩,σ ⟨#[]⟩,ς none 0 0] 24)).alloc (θ #[ι γ 26,σ ⟨#[50]⟩,σ ⟨#[]⟩,ς none 0 0] 24)).heap.size ((w.alloc (θ #[ι γ 26,σ ⟨#[49]⟩,σ ⟨#[]⟩,ς none 0 0] 24)).alloc (θ #[ι γ 26,σ ⟨#[50]⟩,σ ⟨#[]⟩,ς none 0 0] 24)) W→_):=fun W hW=>q W (b2.trans (hW.mono b2.size))
 have Pn:=QA q';have HP:=QA hP;have HT:=QA hT;clear b1 q b2 q' e1 hP hT;go_enter Tryz.func11,Tryz.ntmps11
 go_upto_region 3 with(fail)
 obtain⟨w2,hw2⟩:∃w2,((w.alloc (θ #[ι γ 26,σ ⟨#[49]⟩,σ ⟨#[]⟩,ς none 0 0] 24)).alloc (θ #[ι γ 26,σ ⟨#[50]⟩,σ ⟨#[]⟩,ς none 0 0] 24))=w2:=⟨_,rfl⟩;rw[hw2]at HB Po Pn⊢;clear hw2;refine Z3 (FV w2 (ξ #[ι γ 26,σ ⟨#[49]⟩,σ ⟨#[]⟩,ς none 0 0]) (ξ #[ι γ 26,σ ⟨#[50]⟩,σ ⟨#[]⟩,ς none 0 0]) ⟨#[97]⟩ ⟨#[98]⟩ (.cons 26 ⟨#[49]⟩ ⟨#[]⟩ .nil .nil) (.cons 26 ⟨#[50]⟩ ⟨#[]⟩ .nil .nil)) χ δ χ (fun x=>FV.start) ?steps ?done
 case steps =>
  intro L xv W' hI hcl a ha;simp only[Qi]at ha;simp only[ZC,ZA,QZ,ZL,Nat.reduceAdd]at ha;subst ha;refine⟨?s0,?s1,?s2,?s3,?s4,?s5,?s6,?s7,trivial⟩;all_goals intro hL hd K hK
  all_goals(try simp only[Act.put,ZC,ZA,QZ]at hK)
  case s0=>exact c53
  case s1=>have h7:L 7=false:=(Qh (r:=7) hcl (Qh (r:=5) hcl (Qh (r:=4) hcl hL χ) χ) χ);have hx:xv 0=ξ #[ι γ 26,σ ⟨#[49]⟩,σ ⟨#[]⟩,ς none 0 0]:=hI.e0 (hd 0 χ);clear hd;rw[hx]at hK⊢;refine(if_pos (by rfl)).mpr ?_;have hc:=Kw ⟨#[97]⟩ 26 ⟨#[49]⟩ none 0 0 .nil W' (V6 _ _);exact c106
  case s2=>have h7:L 7=false:=(Qh (r:=7) hcl (Qh (r:=5) hcl (Qh (r:=4) hcl (Qh (r:=3) hcl hL χ) χ) χ) χ);clear hd;refine(if_pos (by rfl)).mpr ?_;obtain⟨p0,p1,p2,p3⟩:=Pn.out W' hI.QF;go_simp;exact hK.out _ _ (hI.Nc h7)
  case s3=>have h7:L 7=false:=(Qh (r:=7) hcl (Qh (r:=5) hcl (Qh (r:=4) hcl hL χ) χ) χ);have hx:xv 2=ξ #[ι γ 26,σ ⟨#[50]⟩,σ ⟨#[]⟩,ς none 0 0]:=hI.e2 (hd 2 χ);clear hd;rw[hx]at hK⊢;refine(if_pos (by rfl)).mpr ?_;have hc:=Kw ⟨#[98]⟩ 26 ⟨#[50]⟩ none 0 0 .nil W' (V6 _ _);exact c107
  case s4=>have h7:L 7=false:=(Qh (r:=7) hcl (Qh (r:=5) hcl hL χ) χ);obtain⟨A5,n5,C5,e5,Mk⟩:=hI.e1 (hd 1 χ) h7;obtain⟨A6,n6,C6,e6,Sy⟩:=hI.e3 (hd 3 χ) h7;clear hd;rw[e5,e6]at hK⊢;refine(if_pos (by rfl)).mpr ?_;go_simp;have hf:=ü W' 4 4 ⟨#[97]⟩ ⟨#[98]⟩ A5 A6 n5 C5 n6 C6 _ _ Mk Sy;exact hK.out _ _ ((hI.later (Qz W' _)).KD h7 (hf.up ψ))
  case s5=>exact c43
  case s6=>exact c66
  case s7 =>
   have h5:=hd 5 χ;have h6:=hd 6 χ;have h0:L 0=true:=hcl 1 0 (hcl 4 1 (hcl 5 4 h5 χ) χ) χ;have h2:L 2=true:=hcl 3 2 (hcl 4 3 (hcl 5 4 h5 χ) χ) χ;obtain⟨A5,n5,C5,e5,Mk⟩:=hI.e5 h5 hL;obtain⟨g,JR,hg,hbl⟩:=hI.e6 h6 hL;clear hd;rw[e5,JR]at hK⊢;refine(if_pos (by rfl)).mpr ?_;have f0:W'.frozen? ⟨g,0,none⟩=false:=by simp[World.frozen?,hbl]
   have f1:W'.frozen? ⟨g,1,none⟩=false:=by simp[World.frozen?,hbl]
   have f2:W'.frozen? ⟨g,2,none⟩=false:=by simp[World.frozen?,hbl]
   have f3:W'.frozen? ⟨g,3,none⟩=false:=by simp[World.frozen?,hbl]
   have q0:W'.cell? ⟨g,0,none⟩=some (ι γ 0):=by simp[World.cell?,hbl]
   have q1:W'.cell? ⟨g,1,none⟩=some (σ ⟨#[]⟩):=by simp[World.cell?,hbl]
   have q2:W'.cell? ⟨g,2,none⟩=some (σ ⟨#[]⟩):=by simp[World.cell?,hbl]
   have q3:W'.cell? ⟨g,3,none⟩=some (ς none 0 0):=by simp[World.cell?,hbl]
   go_simp;have t1:=Z8 hbl 0 (ι γ 1);have t2:=Z8 t1 1 (σ ⟨#[]⟩);have t3:=Z8 t2 2 (σ ⟨#[]⟩);have t4:=Z8 t3 3 (ς A5 n5 C5);simp only[ZC,ZA,QZ]at t4;have hb4:=((((Below.refl w2.heap.size W').setCell (p:=⟨g,0,none⟩) hg (ι γ 1)).setCell (p:=⟨g,1,none⟩) hg (σ ⟨#[]⟩)).setCell (p:=⟨g,2,none⟩) hg (σ ⟨#[]⟩)).setCell (p:=⟨g,3,none⟩) hg (ς A5 n5 C5);have zZ:=((Fs.off hbl Mk (by simp[NZ,Oy])).keep fun b hb=>(((J5 _ 3 (ς A5 n5 C5) (Ne.symm hb.2)).trans (J5 _ 2 (σ ⟨#[]⟩) (Ne.symm hb.2))).trans (J5 _ 1 (σ ⟨#[]⟩) (Ne.symm hb.2))).trans (J5 W' 0 (ι γ 1) (Ne.symm hb.2))).more fun b hb=>VE hb.1 hb4.size
   exact hK.out undef _ (hI.jC JR hg h0 h2 t4 zZ hb4)
 case done =>
  intro L xv W hI hall a ha;obtain⟨g1,A1,n1,C1,JR,hg1,hb1,Pe⟩:=hI.e7 (hall 7 δ);have ZX:=hI.QF;simp only[Qi]at ha;simp only[ZC,ZA,QZ,ZL,Nat.reduceAdd]at ha;subst ha;rw[JR]
  have vM:Hid (∀V,Below W.heap.size W V→V.cell? ⟨g1,0,none⟩=some (ι γ 1)∧V.cell? ⟨g1,1,none⟩=some (σ ⟨#[]⟩)∧V.cell? ⟨g1,2,none⟩=some (σ ⟨#[]⟩)∧V.cell? ⟨g1,3,none⟩=some (ς A1 n1 C1)):=fun W' hW=>by
   have h:W'.heap[g1]?=_:=(hW.block g1 (Array.getElem?_eq_some_iff.1 hb1).1).trans hb1;refine⟨?_,?_,?_,?_⟩ <;> simp[World.cell?,h]
  replace Po:=QA (fun W' (hW:Below W.heap.size W W')=>Po.out W' (ZX.trans (hW.mono ZX.size)));have uR:=QA (show Fs W (Lo W.heap.size) (ς A1 n1 C1) Mw from Pe);have Z':=VO HB ZX;clear hI hall JR hb1 Pe ZX;obtain⟨w3,hw3⟩:∃w3,w3=W:=⟨_,rfl⟩;subst hw3
  go_upto_region 4 with(fail)
  refine Z3 (FV w3 (ξ #[ι γ 26,σ ⟨#[49]⟩,σ ⟨#[]⟩,ς none 0 0]) (ξ #[ι γ 26,σ ⟨#[49]⟩,σ ⟨#[]⟩,ς none 0 0]) ⟨#[98]⟩ ⟨#[97]⟩ (.cons 26 ⟨#[49]⟩ ⟨#[]⟩ .nil .nil) (.cons 26 ⟨#[49]⟩ ⟨#[]⟩ .nil .nil)) χ δ χ (fun x=>FV.start) ?steps ?done
  case steps =>
   intro L xv W' hI hcl a ha;simp only[Qi]at ha;simp only[ZC,ZA,QZ,ZL,Nat.reduceAdd]at ha;subst ha;refine⟨?s0,?s1,?s2,?s3,?s4,?s5,?s6,?s7,trivial⟩;all_goals intro hL hd K hK
   all_goals(try simp only[Act.put,ZC,ZA,QZ]at hK)
   case s0=>exact c53
   case s1=>have h7:L 7=false:=(Qh (r:=7) hcl (Qh (r:=5) hcl (Qh (r:=4) hcl hL χ) χ) χ);have hx:xv 0=ξ #[ι γ 26,σ ⟨#[49]⟩,σ ⟨#[]⟩,ς none 0 0]:=hI.e0 (hd 0 χ);clear hd;rw[hx]at hK⊢;refine(if_pos (by rfl)).mpr ?_;have hc:=Kw ⟨#[98]⟩ 26 ⟨#[49]⟩ none 0 0 .nil W' (V6 _ _);exact c106
   case s2=>have h7:L 7=false:=(Qh (r:=7) hcl (Qh (r:=5) hcl (Qh (r:=4) hcl (Qh (r:=3) hcl hL χ) χ) χ) χ);clear hd;refine(if_pos (by rfl)).mpr ?_;obtain⟨p0,p1,p2,p3⟩:=Po.out W' hI.QF;go_simp;exact hK.out _ _ (hI.Nc h7)
   case s3=>have h7:L 7=false:=(Qh (r:=7) hcl (Qh (r:=5) hcl (Qh (r:=4) hcl hL χ) χ) χ);have hx:xv 2=ξ #[ι γ 26,σ ⟨#[49]⟩,σ ⟨#[]⟩,ς none 0 0]:=hI.e2 (hd 2 χ);clear hd;rw[hx]at hK⊢;refine(if_pos (by rfl)).mpr ?_;have hc:=Kw ⟨#[97]⟩ 26 ⟨#[49]⟩ none 0 0 .nil W' (V6 _ _);exact c107
   case s4=>have h7:L 7=false:=(Qh (r:=7) hcl (Qh (r:=5) hcl hL χ) χ);obtain⟨A5,n5,C5,e5,Mk⟩:=hI.e1 (hd 1 χ) h7;obtain⟨A6,n6,C6,e6,Sy⟩:=hI.e3 (hd 3 χ) h7;clear hd;rw[e5,e6]at hK⊢;refine(if_pos (by rfl)).mpr ?_;go_simp;have hf:=ü W' 4 4 ⟨#[98]⟩ ⟨#[97]⟩ A5 A6 n5 C5 n6 C6 _ _ Mk Sy;exact hK.out _ _ ((hI.later (Qz W' _)).KD h7 (hf.up ψ))
   case s5=>exact c43
   case s6=>exact c66
   case s7 =>
    have h5:=hd 5 χ;have h6:=hd 6 χ;have h0:L 0=true:=hcl 1 0 (hcl 4 1 (hcl 5 4 h5 χ) χ) χ;have h2:L 2=true:=hcl 3 2 (hcl 4 3 (hcl 5 4 h5 χ) χ) χ;obtain⟨A5,n5,C5,e5,Mk⟩:=hI.e5 h5 hL;obtain⟨g,JR,hg,hbl⟩:=hI.e6 h6 hL;clear hd;rw[e5,JR]at hK⊢;refine(if_pos (by rfl)).mpr ?_;have f0:W'.frozen? ⟨g,0,none⟩=false:=by simp[World.frozen?,hbl]
    have f1:W'.frozen? ⟨g,1,none⟩=false:=by simp[World.frozen?,hbl]
    have f2:W'.frozen? ⟨g,2,none⟩=false:=by simp[World.frozen?,hbl]
    have f3:W'.frozen? ⟨g,3,none⟩=false:=by simp[World.frozen?,hbl]
    have q0:W'.cell? ⟨g,0,none⟩=some (ι γ 0):=by simp[World.cell?,hbl]
    have q1:W'.cell? ⟨g,1,none⟩=some (σ ⟨#[]⟩):=by simp[World.cell?,hbl]
    have q2:W'.cell? ⟨g,2,none⟩=some (σ ⟨#[]⟩):=by simp[World.cell?,hbl]
    have q3:W'.cell? ⟨g,3,none⟩=some (ς none 0 0):=by simp[World.cell?,hbl]
    go_simp;have t1:=Z8 hbl 0 (ι γ 1);have t2:=Z8 t1 1 (σ ⟨#[]⟩);have t3:=Z8 t2 2 (σ ⟨#[]⟩);have t4:=Z8 t3 3 (ς A5 n5 C5);simp only[ZC,ZA,QZ]at t4;have hb4:=((((Below.refl w3.heap.size W').setCell (p:=⟨g,0,none⟩) hg (ι γ 1)).setCell (p:=⟨g,1,none⟩) hg (σ ⟨#[]⟩)).setCell (p:=⟨g,2,none⟩) hg (σ ⟨#[]⟩)).setCell (p:=⟨g,3,none⟩) hg (ς A5 n5 C5);have zZ:=((Fs.off hbl Mk (by simp[NZ,Oy])).keep fun b hb=>(((J5 _ 3 (ς A5 n5 C5) (Ne.symm hb.2)).trans (J5 _ 2 (σ ⟨#[]⟩) (Ne.symm hb.2))).trans (J5 _ 1 (σ ⟨#[]⟩) (Ne.symm hb.2))).trans (J5 W' 0 (ι γ 1) (Ne.symm hb.2))).more fun b hb=>VE hb.1 hb4.size
    exact hK.out undef _ (hI.jC JR hg h0 h2 t4 zZ hb4)
  case done =>
   intro L xv W hI hall a ha;obtain⟨g2,A2,n2,C2,JR,hg2,hb2,hf2⟩:=hI.e7 (hall 7 δ);have ZX:=hI.QF;simp only[Qi]at ha;simp only[ZC,ZA,QZ,ZL,Nat.reduceAdd]at ha;subst ha;rw[JR]
   have oI:Hid (∀V,Below W.heap.size W V→V.cell? ⟨g2,0,none⟩=some (ι γ 1)∧V.cell? ⟨g2,1,none⟩=some (σ ⟨#[]⟩)∧V.cell? ⟨g2,2,none⟩=some (σ ⟨#[]⟩)∧V.cell? ⟨g2,3,none⟩=some (ς A2 n2 C2)):=fun W' hW=>by
    have h:W'.heap[g2]?=_:=(hW.block g2 (Array.getElem?_eq_some_iff.1 hb2).1).trans hb2;refine⟨?_,?_,?_,?_⟩ <;> simp[World.cell?,h]
   have oJ:Hid (∀V,Below W.heap.size W V→V.cell? ⟨g1,0,none⟩=some (ι γ 1)∧V.cell? ⟨g1,1,none⟩=some (σ ⟨#[]⟩)∧V.cell? ⟨g1,2,none⟩=some (σ ⟨#[]⟩)∧V.cell? ⟨g1,3,none⟩=some (ς A1 n1 C1)):=fun W' hW=>vM.out W' (ZX.trans (hW.mono ZX.size))
   have SG:=QA (show Fs W (Lo W.heap.size) (ς A2 n2 C2) Mv from hf2);have XY:=QA (uR.out.later ZX);have YR:=VO Z' ZX;clear hI hall JR hb2 hf2 ZX Po Pn vM uR Z';obtain⟨w5,zM⟩:∃w5,w5=W:=⟨_,rfl⟩;subst zM;obtain⟨L,hL⟩:∃L:List P2,[(0,0),(1,1),(2,4),(3,5),(4,2),(5,3)]=L:=⟨_,rfl⟩;have RM:=Qz2;have Bo:=Qtl;have hro:=Qy4;rw[hL]at RM Bo hro;have hlen:L.length=6:=by rw[←hL];rfl
   have l9:∀p∈L,0≤p.1∧p.1<((6:Nat):Int):=by rw[←hL];decide
   obtain⟨p0,p1,p2,p3⟩:=oJ.out w5 (Below.refl _ _);obtain⟨r0,r1,r2,r3⟩:=oI.out w5 (Below.refl _ _);have ho:=Qy 1 ⟨#[]⟩ ⟨#[]⟩ A1 n1 C1 Mw 1 ⟨#[]⟩ ⟨#[]⟩ A2 n2 C2 Mv w5 (HP.out.on YR.out) (HT.out.below YR.out HT.out.pos) XY.out SG.out δ δ (fun _=>yG δ) (fun _=>yG δ) Qtk Qtm;rw[RM,if_neg δ]at ho;have HO:=QA ho;have jb:=QA Bo;have aC:=QA hro;have HLEN:=QA hlen;have EO:=QA l9;clear ho RM Bo hro hlen l9 hL;go_wp2_with fail;refine HO.out.mono ?_;rintro e w6 ⟨VH,v6,rfl,Fu⟩;obtain⟨Al,Cl,rfl⟩:=Fu.slice;have Wh:Qm w6 (fun b=>b<w6.heap.size) (ς Al L.length Cl) L:=Fu.more fun b hb=>hb.2
   have ht:=Qob 6 Al Cl L w6 Wh ω EO.out (by rw[HLEN.out];omega);rw[HLEN.out,aC.out,show((6:Nat):Int)=6 from rfl]at ht;have HTO:=QA ht;have HL6:Hid (∀V,Below w6.heap.size w6 V→Qm V (Lo V.heap.size) (ς Al L.length Cl) L):=fun V hV=>Wh.later hV
   have GG:=QA VH;rw[HLEN.out];clear ht Fu Wh VH p0 p1 p2 p3 r0 r1 r2 r3 HO;go_wp2_with fail;refine HTO.out.mono ?_;rintro e w7 ⟨VL,g7,_,rfl,hbk⟩;have UG:=VO GG VL;have hR:=Qdb 1 ⟨#[]⟩ ⟨#[]⟩ A1 n1 C1 Mw 1 ⟨#[]⟩ ⟨#[]⟩ A2 n2 C2 Mv Al Cl L w7 (XY.out.later UG.out) (SG.out.later UG.out) (HL6.out w7 VL) δ δ (by rw[HLEN.out];omega);rw[HLEN.out,jb.out]at hR;have vU:=QA hR;have Ad:=QA hbk;obtain⟨p0,p1,p2,p3⟩:=oJ.out w7 UG.out;obtain⟨r0,r1,r2,r3⟩:=oI.out w7 UG.out;clear hR hbk VL HTO;go_wp2_with fail;refine c₁ vU.out fun w8 YJ=>?_;have Hm:=VO UG YJ;have hN:=Qdb 1 ⟨#[]⟩ ⟨#[]⟩ A1 n1 C1 Mw 1 ⟨#[]⟩ ⟨#[]⟩ A2 n2 C2 Mv none 0 [] w8 (XY.out.later Hm.out) (SG.out.later Hm.out) (G7 w8 _) δ δ δ;rw[show([]:List P2).length=0 from rfl,show Z9 (Zy (one 1 ⟨#[]⟩ ⟨#[]⟩ Mw)) (Zy (one 1 ⟨#[]⟩ ⟨#[]⟩ Mv)) []=false from rfl]at hN;have rV:=QA hN;clear hN p0 p1 p2 p3 r0 r1 r2 r3 vU;obtain⟨p0,p1,p2,p3⟩:=oJ.out w8 Hm.out;obtain⟨r0,r1,r2,r3⟩:=oI.out w8 Hm.out;have PK:=Ad.out.keep YJ;have y0:w8.cell? ⟨g7,0,none⟩=some (ι γ 0):=PK.at_ (i:=0) rfl;have y1:w8.cell? ⟨g7,1,none⟩=some (ι γ 1):=PK.at_ (i:=1) rfl;have y2:w8.cell? ⟨g7,2,none⟩=some (ι γ 4):=PK.at_ (i:=2) rfl;have y3:w8.cell? ⟨g7,3,none⟩=some (ι γ 5):=PK.at_ (i:=3) rfl;have y4:w8.cell? ⟨g7,4,none⟩=some (ι γ 2):=PK.at_ (i:=4) rfl;clear PK YJ;go_wp2_with fail;refine rV.out.mono ?_;rintro e w9 ⟨rfl,U'⟩;have ER:=QA (YR.out.trans ((Hm.out.trans (U'.mono Hm.out.size)).mono YR.out.size));clear U';go_wp2;go_ret;exact⟨rfl,ER.out⟩
def bA(k:Int)(x y:ByteArray)(c:F):Prop:=(c.size+1≤400∧x.size≤1000000∧y.size≤1000000∧Zp c)∧Hg k∧Vf c
theorem Qyb{k:Int}{x y:ByteArray}{A:Option Addr}{n C:Nat}{c:F}{k':Int}{x' y':ByteArray}{A':Option Addr}{n' C':Nat}{c':F}{w:World}(hp:Pow w)(hT:Lex.XF w)(hf:Fs w (Lo w.heap.size) (ς A n C) c)(hf':Fs w (Lo w.heap.size) (ς A' n' C') c')
 (h:bA k x y c) (h':bA k' x' y' c'):Calls Tryz.prog 12 #[ξ #[ι γ k,σ x,σ y,ς A n C],ξ #[ι γ k',σ x',σ y',ς A' n' C']] w (ę w 0 (Rz k x y c k' x' y' c')):=by
 obtain⟨⟨h1,h2,h3,h4⟩,h5,h6⟩:=h;obtain⟨⟨g1,g2,g3,g4⟩,g5,g6⟩:=h';have ho:=Qy k x y A n C c k' x' y' A' n' C' c' w hp hT hf hf' ω ω (fun _=>yG ω) (fun _=>yG ω) ⟨h2,h3,h4,g2,g3,g4,trivial⟩ ⟨h5,h6,g5,g6,trivial⟩;rwa[if_neg ω]at ho
theorem ö{ka kb:List Int}:∀(L:List P2)(last:Int)(used:List Int),X7 ka kb last used L=true→L=[]∨(L.length:Int)+last+1≤ka.length
 |[],_,_,_=>.inl rfl
 |(x,y)::r,last,used,h=>by
  simp only[X7,Bool.and_eq_true]at h;obtain⟨g1,g2,_⟩:=Vt.1 h.1;rcases ö r x _ h.2 with rfl|hr
  ·right;simp;omega
  ·right;simp only[List.length_cons];omega
theorem Q1t{k:Int}{x y:ByteArray}{c:F}{k':Int}{x' y':ByteArray}{c':F}(h:c.size<20000)(h':c'.size<20000):(Rz k x y c k' x' y' c').length≤c.size+1:=by
 by_cases hk:k=k'
 ·subst hk;have hm:=ó (k:=k) (x:=x) (y:=y) (x':=x') (y':=y') h h';unfold Z9 at hm;rw[Bool.and_eq_true]at hm;rcases ö _ _ _ hm.2 with e|hl
  ·rw[e];exact Nat.zero_le _
  ·unfold Zy at hl;rw[Uv,Qj,Q4]at hl;omega
 ·rw[fD hk];exact Nat.zero_le _
def D7(L:List Nd)(v:Value)(W:World):Prop:=∃A C vP vS vK,v=ξ #[ς A L.length C,vP,vS,vK]∧Fs W (Lo W.heap.size) (ς A L.length C) (YG L)
def ò(L:List Nd):Cd TB:=⟨D7 L,fun v W W' hb h=>by
 obtain⟨A,C,vP,vS,vK,e,hf⟩:=h;exact⟨A,C,vP,vS,vK,e,hf.later hb⟩⟩
theorem iF(k:Int)(x y:ByteArray)(A:Option Addr)(n C:Nat)(c:F)(k':Int)(x' y':ByteArray)(A':Option Addr)(n' C':Nat)(c':F)(w:World)(hf:Fs w (Lo w.heap.size) (ς A n C) c)(hf':Fs w (Lo w.heap.size) (ς A' n' C') c')(hP:Pow w)(hT:Lex.XF w)(hk:Hg k∧Vf c)(hk':Hg k'∧Vf c') :
 Calls Tryz.prog 3 #[ξ #[ι γ k,σ x,σ y,ς A n C],ξ #[ι γ k',σ x',σ y',ς A' n' C']] w fun e w'=>e=ρ (τ true)∧Below w.heap.size w w':=by
 have b1:=Qz w (θ #[ι γ k,σ x,σ y,ς A n C] 24);have q:=J6 w k x y (ς A n C);have b2:=Qz (w.alloc (θ #[ι γ k,σ x,σ y,ς A n C] 24)) (θ #[ι γ k',σ x',σ y',ς A' n' C'] 24);have q':=J6 (w.alloc (θ #[ι γ k,σ x,σ y,ς A n C] 24)) k' x' y' (ς A' n' C');have e1:(w.alloc (θ #[ι γ k,σ x,σ y,ς A n C] 24)).heap.size=w.heap.size+1:=ψ
 rw[e1]at q';have HB:=QA (b1.trans (b2.mono b1.size));have Po:Hid (∀W,Below ((w.alloc (θ #[ι γ k,σ x,σ y,ς A n C] 24)).alloc (θ #[ι γ k',σ x',σ y',ς A' n' C'] 24)).heap.size ((w.alloc (θ #[ι γ k,σ x,σ y,ς A n C] 24)).alloc (θ #[ι γ k',σ x',σ y',ς A' n' C'] 24)) W→_):=fun W hW=>q W (b2.trans (hW.mono b2.size))
 have Pn:=QA q';have LK:=QA ((hf.later b1).later b2);have XY:=QA ((hf'.later b1).later b2);have NR:=QA (And.intro ((hP.on b1).on b2) ((hT.below b1 hT.pos).below b2 (hT.below b1 hT.pos).pos));have KA:=QA (And.intro hk hk');obtain⟨q0,q1,q2,q3⟩:=Po.out _ (QE _ _);obtain⟨p0,p1,p2,p3⟩:=Pn.out _ (QE _ _);obtain⟨w2,hw2⟩:∃w2,((w.alloc (θ #[ι γ k,σ x,σ y,ς A n C] 24)).alloc (θ #[ι γ k',σ x',σ y',ς A' n' C'] 24))=w2:=⟨_,rfl⟩;rw[hw2]at HB Po Pn LK XY NR q0 q1 q2 q3 p0 p1 p2 p3;have yR:=QA (ė k x y A n C c _ LK.out);obtain⟨fa,M6⟩:=Mem.QD (vq k x y c);obtain⟨fb,cE⟩:=Mem.QD (vq k' x' y' c');rw[M6]at yR;have HFA:=QA M6;have TX:=QA cE;clear b1 q b2 q' e1 hf hf' hP hT hk hk' M6 cE;go_enter Tryz.func3,Tryz.ntmps3;go_wp2_with fail;try rw[hw2]
 clear hw2;refine c₁ yR.out fun w3 hb3=>?_;have VG:=QA hb3;have S9:=QA (ė k' x' y' A' n' C' c' w3 (XY.out.later hb3));rw[TX.out]at S9;obtain⟨q0,q1,q2,q3⟩:=Po.out w3 hb3;obtain⟨p0,p1,p2,p3⟩:=Pn.out w3 hb3;clear hb3 yR;cases fa with
 |false=>go_wp2_with fail;refine c₁ (Uu w3 (NR.out.1.on VG.out) (NR.out.2.below VG.out NR.out.2.pos)) fun w4 hb=>?_;have HE:=QA (HB.out.trans ((VG.out.trans (hb.mono VG.out.size)).mono HB.out.size));clear hb;exact c170
 |true =>
 go_wp2_with fail;refine c₁ S9.out fun w4 hb4=>?_;have KF:=VO VG hb4;have L3:=QA (And.intro (NR.out.1.on KF.out) (NR.out.2.below KF.out NR.out.2.pos));have sM:=QA (LK.out.later KF.out);have F6:=QA (XY.out.later KF.out);have rO:Hid (∀W,Below w4.heap.size w4 W→_):=fun W hW=>Po.out W (KF.out.trans (hW.mono KF.out.size))
 have S8:Hid (∀W,Below w4.heap.size w4 W→_):=fun W hW=>Pn.out W (KF.out.trans (hW.mono KF.out.size))
 have UQ:=QA (HB.out.trans (KF.out.mono HB.out.size));clear hb4 S9 q0 q1 q2 q3 p0 p1 p2 p3 VG KF HB NR LK XY Po Pn;cases fb with
 |false=>go_wp2_with fail;refine c₁ (Uu w4 L3.out.1 L3.out.2) fun w5 hb=>?_;have HE:=VO UQ hb;clear hb;exact c170
 |true =>
 have MK:Hid (bA k x y c):=⟨ł HFA.out,KA.out.1⟩;have Md:Hid (bA k' x' y' c'):=⟨ł TX.out,KA.out.2⟩;have XO:Hid (c.size+1≤400∧c'.size+1≤400):=⟨MK.out.1.1,Md.out.1.1⟩;clear HFA TX KA;have HO:=QA (Qyb L3.out.1 L3.out.2 sM.out F6.out MK.out Md.out);obtain⟨mt,RM⟩:=Mem.QD (Rz k x y c k' x' y' c');have HLEN:Hid (mt.length≤400):=by show _≤_;rw[←RM];exact Nat.le_trans (Q1t (by have:=XO.out;omega) (by have:=XO.out;omega)) XO.out.1
 have T8:Hid (k≠k'→mt.length=0):=fun h=>by rw[←RM,fD h];rfl
 have HR:Hid (k=k'→Z9 (kinds (nodes (one k x y c))) (kinds (nodes (one k' x' y' c'))) mt=true):=fun h=>by
  subst h;rw[←RM];exact ó (by have:=XO.out;omega) (by have:=XO.out;omega)
 rw[RM]at HO;obtain⟨q0,q1,q2,q3⟩:=rO.out w4 (QE _ _);obtain⟨p0,p1,p2,p3⟩:=S8.out w4 (QE _ _);clear RM;go_wp2_with fail;refine HO.out.mono ?_;rintro e w5 ⟨Y',v5,rfl,Fv⟩;obtain⟨Al,Cl,rfl⟩:=Fv.slice;have HL5:=QA (Fv.more fun b h=>h.2:Qm w5 (Lo w5.heap.size) _ mt);have MG:=QA (Uu w5 (L3.out.1.on Y') (L3.out.2.below Y' L3.out.2.pos));have N2:=QA Y';clear Y' Fv HO q0 q1 q2 q3 p0 p1 p2 p3;go_wp2_with fail;refine c₁ MG.out fun w6 VH=>?_;have L4:=VO N2 VH;have N1:=QA (UQ.out.trans (L4.out.mono UQ.out.size));have HL:=QA (HL5.out.later VH);have LK:=QA (sM.out.later L4.out);have XY:=QA (F6.out.later L4.out);have P7:Hid (∀W,Below w6.heap.size w6 W→_):=fun W hW=>rO.out W (L4.out.trans (hW.mono L4.out.size))
 have P6:Hid (∀W,Below w6.heap.size w6 W→_):=fun W hW=>S8.out W (L4.out.trans (hW.mono L4.out.size))
 obtain⟨q0,q1,q2,q3⟩:=P7.out w6 (QE _ _);obtain⟨p0,p1,p2,p3⟩:=P6.out w6 (QE _ _);clear VH MG HL5 N2 L3 sM F6 UQ rO S8;by_cases hkk:k=k'
 case neg =>
  have hne:(k != k')=true:=by simp[hkk]
  have hz:=T8.out hkk;rw[hz];go_wp2;go_ret;exact⟨rfl,N1.out⟩
 have hR:=HR.out hkk;have hne:(k != k')=false:=by simp[hkk]
 clear HR T8;have HR:=QA hR;have rO:=P7;have S8:=P6;clear hR hkk P7 P6
 go_upto_region 8 with(fail)
 clear q0 q1 q2 q3 p0 p1 p2 p3 hne;refine Ek (fun W W'=>Below W.heap.size W W') [Cd.is (ξ #[ι γ k,σ x,σ y,ς A n C]),ò (nodes (one k x y c)),Cd.is (ξ #[ι γ k',σ x',σ y',ς A' n' C']),ò (nodes (one k' x' y' c')),Cd.is (ς Al mt.length Cl),Cd.is (τ true),Cd.is (τ true)] χ δ χ (QE _ _) (fun _ _ _ h k=>h.trans (k.mono h.size)) ?steps ?behind
 case steps =>
  intro xv W hW a ha;replace hW:=vH hW;simp only[Qi]at ha;simp only[ZC,ZA,QZ,Nat.zero_add,Nat.reduceAdd]at ha;subst ha;refine⟨?s0,?s1,?s2,?s3,?s4,?s5,?s6,trivial⟩;all_goals intro hd K hK
  all_goals(try simp only[Act.put,ZC,ZA,QZ]at hK)
  case s0=>clear hd;refine(if_pos (by rfl)).mpr ?_;obtain⟨q0,q1,q2,q3⟩:=rO.out W hW;exact c16
  case s1=>have hx0:xv 0=ξ #[ι γ k,σ x,σ y,ς A n C]:=hd 0 χ;clear hd;rw[hx0]at hK⊢;refine(if_pos (by rfl)).mpr ?_;go_simp;go_at_call 14;refine(iG k x y A n C c 401 W (LK.out.later hW) (by have:=XO.out;omega) ω).mono ?_;exact c157
  case s2=>clear hd;refine(if_pos (by rfl)).mpr ?_;obtain⟨q0,q1,q2,q3⟩:=S8.out W hW;exact c16
  case s3=>have hx2:xv 2=ξ #[ι γ k',σ x',σ y',ς A' n' C']:=hd 2 χ;clear hd;rw[hx2]at hK⊢;refine(if_pos (by rfl)).mpr ?_;go_simp;go_at_call 14;refine(iG k' x' y' A' n' C' c' 401 W (XY.out.later hW) (by have:=XO.out;omega) ω).mono ?_;exact c157
  case s4=>clear hd;exact c110
  case s5=>have JJ:xv 4=ς Al mt.length Cl:=hd 4 χ;have hx1:D7 (nodes (one k x y c)) (xv 1) W:=hd 1 χ;have hx3:D7 (nodes (one k' x' y' c')) (xv 3) W:=hd 3 χ;clear hd;rw[JJ]at hK⊢;refine(if_pos (by rfl)).mpr ?_;obtain⟨A1,C1,vP,vS,vK,e1,Pe⟩:=hx1;obtain⟨A3,C3,L8,L6,L9,e3,hf3⟩:=hx3;rw[e1,e3]at hK⊢;have hr:=QA (Qhf A1 C1 (nodes (one k x y c)) vP vS vK A3 C3 (nodes (one k' x' y' c')) L8 L6 L9 Al Cl mt W Pe hf3 (HL.out.later hW) (by rw[Qj,Q4];have:=XO.out;omega) (by rw[Qj,Q4];have:=XO.out;omega) (Nat.le_trans HLEN.out δ));rw[HR.out]at hr;clear e1 e3 Pe hf3;go_simp;go_at_call 13;refine hr.out.mono ?_;exact c128
  case s6=>have JB:xv 5=τ true:=hd 5 χ;clear hd;rw[JB]at hK⊢;exact c110
 case behind=>intro xv W hW hx a ha;replace hW:=vH hW;simp only[Qi]at ha;simp only[ZC,ZA,QZ,Nat.zero_add,Nat.reduceAdd]at ha;subst ha;have hl:xv 6=τ true:=hx 6 δ;rw[hl];clear hx hl;have HE:=VO N1 hW;exact c170
end Match
namespace Match
open Shape
def Gp:List (String × DataW Unit):=[("math/bits.deBruijn32tab", Rows.laid_math_bits_deBruijn32tab),("math/bits.deBruijn64tab", Rows.laid_math_bits_deBruijn64tab),("internal/strconv.uint64pow10", Rows.laid_internal_strconv_uint64pow10),("unicode/utf8.acceptRanges", Rows.laid_unicode_utf8_acceptRanges),("scarf/lex.marks", Rows.laid_scarf_lex_marks),("unicode/utf8.first", Rows.laid_unicode_utf8_first)]
theorem Qsy:(Rows.laid_internal_strconv_uint64pow10:DataW Unit)=Lib.tabData .u64 Lib.pow10Tab:=by rfl
theorem Q0b:prog.globalNamed "internal/strconv.uint64pow10" = some 0:=χ
theorem Qz9:(prog.globals[0]?).map (·.type)=some 175:=χ
theorem Qif{W:World}(h:laidMet prog Gp W):Shape.Pow W:=by
 obtain hr:=Lib.laidMet.reads h (n := "internal/strconv.uint64pow10") (d:=Rows.laid_internal_strconv_uint64pow10) (by unfold Gp;exact .tail _ (.tail _ (.head _)))
 obtain⟨g,t,cs,fuel,p,h1,h2,h3,h4⟩:=hr;obtain rfl:=Option.some.inj (Q0b.symm.trans h1);obtain rfl:=Option.some.inj (Qz9.symm.trans h2);rw[Qsy]at h4;have hcs:=Lib.cells_of_tab underlying175 underlying44 χ χ h4;unfold Shape.Pow Lib.TabIs;rw[h3,←hcs]
section
open Ro Lex
theorem ý:prog.globalNamed "scarf/lex.marks" = some 1:=χ
theorem Qxq:(prog.globals[1]?).map (·.type)=some 187:=χ
theorem Q0h:prog.cellsOf 9=1:=χ
theorem Q0k:prog.cellsOf 187=37:=χ
def bW:List (DataW Unit):=KT.map fun m=>.lit (.string (m.map fun n=>UInt8.ofNat n.toNat))
theorem Qvl:(Rows.laid_scarf_lex_marks:DataW Unit)=.agg bW:=by rfl
theorem Qhs{W:World}(h:laidMet prog Gp W):Lex.XF W:=by
 obtain hr:=Lib.laidMet.reads h (n := "scarf/lex.marks") (d:=Rows.laid_scarf_lex_marks) (by unfold Gp;exact .tail _ (.tail _ (.tail _ (.tail _ (.head _)))))
 obtain⟨g,t,cs,fuel,p,h1,h2,h3,h4⟩:=hr;obtain rfl:=Option.some.inj (ý.symm.trans h1);obtain rfl:=Option.some.inj (Qxq.symm.trans h2);obtain⟨xs,m,rfl,hx,hlen,hn,hel⟩:=DataW.trod_array underlying187 h4;rw[Q0k]at hlen;rw[Qvl]at hx;simp only[Prod.mk.injEq,DataW.agg.injEq]at hx;have hcs:cs=mkV:=by
  refine Array.ext' (List.ext_getElem (by rw[hlen,Array.length_toList,rH]) fun i hi hi2=>?_);have xf:i<37:=ω
  have e1:=hel i xf;rw[Q0h,Nat.mul_one]at e1;have IX:i<xs.length:=ω
  rw[QN IX]at e1;obtain⟨s,c1,c2,_⟩:=DataW.trod_string underlying9 e1;have Bn:i<KT.length:=by rw[ra];exact xf
  have e2:(xs.map (·.1))[i]?=bW[i]?:=by rw[←hx.1]
  rw[VP,QN IX,c2]at e2;unfold bW at e2;rw[VP,QN Bn]at e2;simp only[Option.map_some,Option.some.injEq,DataW.lit.injEq,Lit.string.injEq]at e2;have hs:s=strOfNums KT[i]:=by apply ByteArray.ext;apply Array.ext';rw[e2];simp[strOfNums]
  have e3:cs.toList[i]=.string s:=by rw[List.drop_eq_getElem_cons hi]at c1;simpa using c1
  rw[e3,hs];simp[mkV]
 subst hcs;simp only[World.var?,ý,Option.bind_some]at h3;split at h3
 ·rename_i cs t fr he
  injection h3 with h3;subst h3;exact⟨t,fr,he⟩
 ·cases h3
end
theorem Q1v{W:World}(h:laidMet prog Gp W):Shape.Pow W∧Lex.XF W:=⟨Qif h,Qhs h⟩
