import Derived.Test.YtmepekognmlblaaGreatDoorS35
set_option maxHeartbeats 16000000
set_option maxRecDepth 100000
set_option linter.unusedVariables false
open Go.ChangeShapes Go.WideShapes Go.ChangeAt Go.RowKit
open Go.Lib renaming hid→QA
open Go.RowKit.Below renaming refl→QE
open _root_.List renaming setIfInBounds_toArray→ZC,set_cons_succ→ZA,set_cons_zero→QZ,length_append→ZU,append_assoc→JZ,getElem?_eq_getElem→QN,mem_cons_self→XG,length_map→VD,length_take→JS
open _root_.Nat renaming zero_add→ZL,le_trans→QW
open Go.Value renaming string→σ,int→ι,slice→ς,pointer→π,agg→ξ
open Go.IntKind renaming i64→γ
open Go.Obj renaming cells→θ
open Go.Ending renaming returned→ρ
namespace Go.Proofs.YtmepekognmlblaaGreatDoor
namespace Shape
open Mem Tree
def Ym(M:Nat):Prop:=∀(k:Int)(x y:ByteArray)(A:Option Addr)(n C:Nat)(c:F)(p:Int)(w:World)(B:Nat)(S:Nat→Prop)(X:List QC)(g:Nat)(L:List Nd)(ps zs:List Int)(ks:List (List Nat)),c.size≤M→Fs w S (ς A n C) c→PS w B S X g L ps zs ks→
 ps.length=L.length→zs.length=L.length→ks.length=L.length→L.length+c.size+1≤50000→-1≤p→p≤100000→
 Calls Tryz.prog 55 #[π (some ⟨g,0,none⟩),ξ #[ι γ k,σ x,σ y,ς A n C],ι γ p] w fun e w'=>e = ρ (.tuple #[])∧
  PS w' B S X g (L++nodes (one k x y c)) (ps++Jn p L.length (one k x y c)) (zs++Zt (one k x y c)) (ks++Z7 L.length (one k x y c))∧Below B w w'
theorem Kg(w:World):Below w.heap.size w w.drew:=⟨rfl,rfl,rfl,Nat.le_refl _,fun _ _=>rfl⟩
theorem fQ(M:Nat)(ih:∀M',M'<M→Ym M'):Ym M:=by
 intro k x y A n C c p w B S X g L ps zs ks hM hf h h1 h2 h3 h4 hp1 hp2;obtain⟨i0,hi0,hz0,hz1,hz2⟩:=info_parts Zq;obtain⟨i1,hi1,hy0,hy1,hy2⟩:=info_parts Gs;have Sm:=QA ih;have ZT:=Qz w (θ #[ι γ k,σ x,σ y,ς A n C] 24);have hb1:=ZT.mono h.le;have JF:=h.box 24 #[ι γ k,σ x,σ y,ς A n C];have XY:=QA (h.fs (h.later ZT) hb1 hf);have YL:=QA h.safe;obtain⟨gb,hgb⟩:=Mem.QD (w.heap.size);rw[hgb]at JF;obtain⟨w1,hw1⟩:=Mem.QD (w.alloc (θ #[ι γ k,σ x,σ y,ς A n C] 24));rw[hw1]at JF hb1 XY;have hnl:n=c.len:=by obtain⟨A',C',e,_⟩:=hf.slice;injection e with _ e _
 have hcl:=F.QL c;obtain⟨a,ha⟩:=Mem.QD (L.length);rw[ha]at h1 h2 h3 h4;rw[ha];have BD:=QA (ť k x y A n C c p w1 B S _ g L ps zs ks XY.out ω JF ω ω ω ω);have GX:=QA JF;have HB:=QA hb1;have HA:=QA ha;have je:=QA h1;have uF:=QA h2;have Ba:=QA h3;have GF:=QA (Qzl (p:=p) (a:=a) (k:=k) (x:=x) (y:=y) (c:=c));have JM:=QA (Qzn (p:=p) (a:=a) (k:=k) (x:=x) (y:=y) (c:=c));have OZ:Hid (dn 0 (one k x y c)=.cons k x y c .nil):=rfl;have VX:(one k x y c).size=c.size+1:=Q4 k x y c;obtain⟨f,Rj⟩:=Mem.QD (one k x y c);rw[Rj]at VX GF JM OZ;rw[Rj];have XO:Hid (f.size≤M+1):=by show _≤_;omega
 have Hh:Hid (a+f.size≤50000):=by show _≤_;omega
 have ha5:a≤50000:=ω
 have uq:=QA hp1;have rW:=QA hp2;clear ih hM hf h h1 h2 h3 h4 Rj VX hnl hcl JF hb1 ZT ha hp1 hp2;go_enter Tryz.func55,Tryz.ntmps55;obtain⟨aN,cN,aP,cP,aS,cS,aK,cK,⟨q0,q1,q2,q3⟩,⟨z0,z1,z2,z3⟩,GI⟩:=GX.out.rd;rw[HA.out]at q0;obtain⟨R,hR⟩:=GX.out.GD;obtain⟨⟨m0,m1,m2,m3⟩,f0,f1,f2,f3⟩:=Yi hR (List.mem_append_right _ XG);clear GI hR;go_wp2_with fail;refine BD.out.mono ?_;rintro e w2 ⟨rfl,hp2,hb2⟩;have ui:=QA (hp2.cast (L':=L++tN 1 0 f) (ps':=ps++tP p a 1 0 f) (zs':=zs++tS 1 0 f) (ks':=ks++tK a 1 0 f) (by rw[GF.out.1]) (by rw[GF.out.2.1]) (by rw[GF.out.2.2.1]) (by rw[GF.out.2.2.2]));have SG:=QA (GX.out.fs hp2 hb2 XY.out);have XC:=QA (HB.out.trans hb2);clear hp2 hb2 BD GX XY HB q0 q1 q2 q3 z0 z1 z2 z3 m0 m1 m2 m3 f0 f1 f2 f3 hw1 GF;go_wp2
 go_loopw [22] (fun _ wr=>∃(d:Nat)(k':Int)(x' y':ByteArray)(A':Option Addr)(n' C':Nat)(c' r':F),Hid (dn d f=.cons k' x' y' c' r')∧Hid (Fs wr S (ς A' n' C') c')∧Hid (PS wr B S (Kf 24 gb [ι γ k',σ x',σ y',ς A' n' C']::X) g (L++tN (d+1) 0 f) (ps++tP p a (d+1) 0 f) (zs++tS (d+1) 0 f) (ks++tK a (d+1) 0 f))∧Hid (Below B w wr)) (fun _ wr=>a+f.size-pD wr g)
 case atStart=>exact⟨0,k,x,y,A,n,C,c,.nil,OZ.out,SG.out,ui.out,XC.out⟩
 case round =>
  clear ui SG XC;obtain⟨d,k',x',y',A',n',C',c',r',HD,HF,GX,HB⟩:=hrel;obtain⟨aN,cN,aP,cP,aS,cS,aK,cK,⟨q0,q1,q2,q3⟩,⟨z0,z1,z2,z3⟩,GI⟩:=GX.out.rd;have hlen:=(L8 (p:=p) (a:=a) HD.out 0).1;have mK:=(L8 (p:=p) (a:=a) HD.out 0).2.1;have Oe:=(L8 (p:=p) (a:=a) HD.out 0).2.2.1;simp only[upto,F.size,Nat.add_zero]at hlen mK Oe;have WU:(L++tN (d+1) 0 f).length=a+(d+1):=by rw[ZU,HA.out,hlen]
  rw[WU]at q0;obtain⟨R,hR⟩:=GX.out.GD;obtain⟨⟨m0,m1,m2,m3⟩,f0,f1,f2,f3⟩:=Yi hR (List.mem_append_right _ XG);have hds:d+1≤f.size:=by
   rcases pV d f with h|h
   ·rw[HD.out]at h;simp only[F.size]at h;omega
   ·rw[HD.out]at h;cases h
  have HDS:=QA hds;have yR:=QA GX.out;have Rc:=QA WU;have uG:Hid ((ps++tP p a (d+1) 0 f).length=a+(d+1)):=by show _=_;rw[ZU,je.out,mK]
  have uE:Hid ((zs++tS (d+1) 0 f).length=a+(d+1)):=by show _=_;rw[ZU,uF.out,Oe]
  have hn':n'=c'.len:=by obtain⟨A'',C'',e,_⟩:=HF.out.slice;injection e with _ e _
  have zr:=QA (X1 d f k' x' y' c' r' HD.out);have Sk:=QA hn';clear GI hR hlen mK Oe WU;cases c' with
  |cons k2 x2 y2 c2 r2 =>
   obtain⟨b,off,s,rfl,gj,hn0,hat⟩:=HF.out.at_ (i:=0) rfl;obtain⟨A2,C2,rfl,_,_⟩:=hat.kids.slice;have e0:=hat.c0;have e1:=hat.c1;have e2:=hat.c2;have e3:=hat.c3;simp only[Nat.zero_mul,Nat.add_zero]at e0 e1 e2 e3;have Ri:(0:Int)<(n':Int):=ω
   have hput:=GX.out.KD YL.out (ι γ k2) (σ x2) (σ y2) (ς A2 c2.len C2);have SF:=QA hat.kids;have Tu:=QA hput.1;have VG:=QA (HB.out.trans hput.2);have hs2:c2.size+(d+1)<f.size:=by
    rcases pV (d+1) f with h|h
    ·rw[zr.out]at h;simp only[F.size]at h;omega
    ·rw[zr.out]at h;cases h
   have Hi:=QA hs2;clear hat gj hn' hput hds hs2;go_wp2;obtain⟨w3,hw3⟩:∃w3,((((wr.setCell ⟨gb,0,none⟩ (ι γ k2)).setCell ⟨gb,1,none⟩ (σ x2)).setCell ⟨gb,2,none⟩ (σ y2)).setCell ⟨gb,3,none⟩ (ς A2 c2.len C2))=w3:=⟨_,rfl⟩;rw[hw3]at Tu VG⊢;clear q0 q1 q2 q3 z0 z1 z2 z3 m0 m1 m2 m3 f0 f1 f2 f3 e0 e1 e2 e3;have sD:=QA (SF.out.keep (w':=w3) fun q hq=>(GX.out.less YL.out).keep (Tu.out.less YL.out) (by rw[←hw3];exact(GX.out.KD YL.out _ _ _ _).2) q hq);clear hw3 GX;obtain⟨m,hm⟩:=Mem.QD (a+(d+1));obtain⟨aN,cN,aP,cP,aS,cS,aK,cK,⟨q0,q1,q2,q3⟩,⟨z0,z1,z2,z3⟩,GI⟩:=Tu.out.rd;rw[Rc.out,hm]at q0;obtain⟨R,hR⟩:=Tu.out.GD;obtain⟨⟨m0,m1,m2,m3⟩,f0,f1,f2,f3⟩:=Yi hR (List.mem_append_right _ XG);have lv:m≤50000:=by have:=Hh.out;have:=HDS.out;omega
   have EJ:1≤m:=ω
   have hc2:=F.QL c2;have BD:=QA (ť k2 x2 y2 A2 c2.len C2 c2 ((m:Int)-1) w3.drew B S _ g _ _ _ _ (sD.out.drewN 1) (by have:=Hh.out;have:=Hi.out;omega) (Tu.out.later (Kg w3)) (by rw[Rc.out];omega) (by rw[uG.out];omega) (by rw[uE.out];omega) (by rw[ZU,Ba.out,(show(tK a (d+1) 0 f).length=d+1 by simp[tK,upto,Z7])];omega));have HM:=QA hm;clear GI hR hm hc2
   go_still_tail 8,χ
   change wpList _ _ _ _ _ w3.drew;go_wp2_with fail;refine BD.out.mono ?_;rintro e w4 ⟨rfl,zQ,hb4⟩;have HT:=QA (Qxp (p:=p) (a:=a) zr.out);have uh:=QA (zQ.cast (L':=L++tN (d+1+1) 0 f) (ps':=ps++tP p a (d+1+1) 0 f) (zs':=zs++tS (d+1+1) 0 f) (ks':=ks++tK a (d+1+1) 0 f) (by rw[←HT.out.1,JZ]) (by rw[←HT.out.2.1,JZ,show pl p a (d+1)=(m:Int)-1 by unfold pl;rw[if_neg ω];have:=HM.out;omega]) (by rw[←HT.out.2.2.1,JZ]) (by rw[←HT.out.2.2.2,JZ]));have sM:=QA ((Tu.out.later (Kg w3)).fs zQ hb4 (sD.out.drewN 1));have KF:=QA ((VG.out.trans ((Kg w3).mono Tu.out.le)).trans hb4);have Da:=uh.out.len;have kX:pD wr g=a+(d+1):=by rw[yR.out.len,Rc.out]
   have hl4:=(L8 (p:=p) (a:=a) zr.out 0).1;rw[ZU,HA.out,hl4]at Da;simp only[upto,F.size,Nat.add_zero]at Da;clear q0 q1 q2 q3 z0 z1 z2 z3 m0 m1 m2 m3 f0 f1 f2 f3 zQ hb4 hl4;go_wp2
   go_roundw
   case rel=>exact⟨d+1,k2,x2,y2,A2,c2.len,C2,c2,r2,zr.out,sM.out,uh.out,KF.out⟩
   case measure=>rw[kX,Da];have:=Hi.out;omega
  |nil =>
   obtain rfl:n'=0:=Sk.out;have NL:=QA (Qqs (p:=p) (a:=a) zr.out);have vW:=QA (((GX.out.less YL.out).cast (L':=L++tN (d+1) 1 f) (ps':=ps++tP p a (d+1) 1 f) (zs':=zs++tS (d+1) 1 f) (ks':=ks++tK a (d+1) 1 f) (by rw[NL.out.1]) (by rw[NL.out.2.1]) (by rw[NL.out.2.2.1]) (by rw[NL.out.2.2.2])));obtain⟨m,hm⟩:=Mem.QD (a+(d+1));rw[hm]at q0;have lv:m≤50000:=by have:=Hh.out;have:=HDS.out;omega
   have EJ:1≤m:=ω
   have HM:=QA hm;have HCO:Hid (∀i,i≤d→dn i f≠.nil):=fun i hi=>ï d f i hi (by rw[HD.out];intro h;cases h)
   clear NL GX hm hds yR Sk hn';go_wp2;clear q0 q1 q2 q3 z0 z1 z2 z3 m0 m1 m2 m3 f0 f1 f2 f3
   go_loopw [7] (fun s7 wr=>∃(e:Nat)(z:Int),e≤d+1∧z+1=(a:Int)+e∧s7=ι γ z∧Hid (PS wr B S X g (L++tN e 1 f) (ps++tP p a e 1 f) (zs++tS e 1 f) (ks++tK a e 1 f))∧Hid (Below B w wr)) (fun s _=>((intOf s)-a+1).toNat)
   case atStart=>exact⟨d+1,(m:Int)-1,Nat.le_refl _,by have:=HM.out;omega,by go_num,vW.out,HB.out⟩
   case round =>
    clear vW HB HF HD zr Rc uG uE;obtain⟨e,z,he,hz,rfl,GX,HB⟩:=hrel;cases e with
    |zero =>
     have hz':¬(a:Int)≤z:=ω
     have HPE:=QA (GX.out.cast (L':=L++nodes f) (ps':=ps++Jn p a f) (zs':=zs++Zt f) (ks':=ks++Z7 a f) (by rw[JM.out.1]) (by rw[JM.out.2.1]) (by rw[JM.out.2.2.1]) (by rw[JM.out.2.2.2]));clear GX;go_wp2
     go_end0
     exact⟨rfl,HPE.out,HB.out⟩
    |succ d' =>
     obtain⟨t,ht⟩:=Mem.QD (a+d');obtain rfl:z=(t:Int):=ω
     obtain⟨nk,nx,ny,nc,nr,RP⟩:=Qwl (HCO.out d' ω);have BK:=QA RP;have uT:=QA (X1 d' f nk nx ny nc nr RP);have hl:=L8 (p:=p) (a:=a) RP 1;obtain⟨eG,AJ⟩:=Mem.QD (a+(d'+1+(upto 1 nc).size));have gv:(L++tN (d'+1) 1 f).length=eG:=by rw[ZU,HA.out,hl.1,AJ]
     have hS1:(zs++tS (d'+1) 1 f).length=eG:=by rw[ZU,uF.out,hl.2.2.1,AJ]
     have htl:t<eG:=ω
     obtain⟨aN,cN,aP,cP,aS,cS,aK,cK,⟨q0,q1,q2,q3⟩,⟨z0,z1,z2,z3⟩,GI⟩:=GX.out.rd;rw[gv]at q0;obtain⟨gN,s,rfl,⟨v0,v1,v2,v3⟩,hfn⟩:=GI t _ (by have:=Qz8 RP 1 L;rwa[HA.out,ht]at this);obtain⟨As,Cs,rfl,_,_⟩:=hfn.slice;obtain⟨ln,YO⟩:=Mem.QD (nc.len);rw[show(⟨nk,nx,ny,nc⟩:Nd).c.len=ln from YO]at v3 hfn;have Pr:Hid (Fs wr S (ς As ln Cs) nc):=hfn;have HT:=QA ht;have J':=QA YO;have xB:d'+1+nc.size≤f.size:=by
      rcases pV d' f with h|h
      ·rw[RP]at h;simp only[F.size]at h;omega
      ·rw[RP]at h;cases h
     have mM:ln≤50000:=by have:=Hh.out;have:=F.QL nc;omega
     have Bg:=QA xB;have nZ:t≤50000:=by have:=Hh.out;omega
     have xW:(a:Int)≤(t:Int):=ω
     have Q16:(t:Int)<(eG:Int):=ω
     have vW:=QA (GX.out.cast rfl rfl rfl (show ks++tK a (d'+1) 1 f=ks++Py a d' 1 0 f by rw[Qqu]));have HZ:=QA hz;have HE:=QA he;clear RP hl gv hS1 GI hfn ht YO xB hz he AJ;go_wp2;clear q0 q1 q2 q3 z0 z1 z2 z3 v0 v1 v2 v3;obtain⟨w5,zM⟩:∃w5,w5=wr:=⟨_,rfl⟩;have OP:=QA GX.out;rw[←zM]at vW HB Pr GX OP⊢;clear zM
     go_loopw [56] (fun s56 wr=>∃j:Nat,j≤ln∧s56=ι γ (j:Int)∧Hid (PS wr B S X g (L++tN (d'+1) (max 1 j) f) (ps++tP p a (d'+1) (max 1 j) f) (zs++tS (d'+1) (max 1 j) f) (ks++Py a d' (max 1 j) j f))∧Hid (Below B w5 wr)) (fun s _=>ln-(intOf s).toNat)
     case atStart=>exact⟨0,Nat.zero_le _,rfl,vW.out,QE _ _⟩
     case round =>
      obtain⟨j,hj,rfl,qT,Af⟩:=hrel;obtain⟨J,hJ⟩:=Mem.QD (max 1 j);rw[hJ]at qT;have HFJ:=QA (OP.out.fs qT.out Af.out Pr.out);have sH:=QA hJ;clear vW hJ;by_cases hjl:j<ln
      ·have Df:(j:Int)<(ln:Int):=ω
       obtain⟨k3,x3,y3,c3,r3,hdr,_⟩:=F.drop_cons (n:=j) (f:=nc) (by rw[J'.out];exact hjl);obtain⟨b,off,s,rfl,gj,hjn,hat⟩:=HFJ.out.at_ hdr;obtain⟨A3,C3,rfl,_,_⟩:=hat.kids.slice;have e0:=hat.c0;have e1:=hat.c1;have e2:=hat.c2;have e3:=hat.c3;have hpb:=qT.out.box 24 #[ι γ k3,σ x3,σ y3,ς A3 c3.len C3];have GG:Hid (Below B wr (wr.alloc (θ #[ι γ k3,σ x3,σ y3,ς A3 c3.len C3] 24))):=(Qz wr _).mono qT.out.le;have YC:Hid (PS (wr.alloc (θ #[ι γ k3,σ x3,σ y3,ς A3 c3.len C3] 24)) B S (Kf 24 wr.heap.size [ι γ k3,σ x3,σ y3,ς A3 c3.len C3]::X) g _ _ _ _):=hpb;have LJ:=QA (hat.kids.keep (qT.out.keep (hpb.less YL.out) GG.out));have IH:=QA hdr;have MH:=QA hjl;clear hat gj hdr hpb;by_cases Mf:j=0
       ·subst Mf;simp only[Nat.zero_mul,Nat.add_zero]at e0 e1 e2 e3;have Q2z:(0:Int)<(ln:Int):=ω
        go_wp2;clear e0 e1 e2 e3;obtain⟨XX,Mm⟩:=Mem.QD (Kf 24 wr.heap.size [ι γ k3,σ x3,σ y3,ς A3 c3.len C3]::X);rw[show Kf 24 wr.heap.size [ι γ k3,σ x3,σ y3,ς A3 c3.len C3]::X=XX from Mm]at YC;have MB:=QA Mm;clear Mm;obtain⟨w6,GS⟩:=Mem.QD ((wr.alloc (θ #[ι γ k3,σ x3,σ y3,ς A3 c3.len C3] 24)));rw[GS]at YC GG LJ⊢;clear GS;obtain⟨vN,vP,vS,vK,us,nps,hF,hL,VX,KU⟩:=YC.out.all;have Ta:=à (a:=a) J 0 BK.out ks Ba.out;rw[HT.out]at Ta;obtain⟨lj,YI⟩:=Mem.QD ((places (t+1) nc).take 0);rw[YI]at Ta;have CX:t<us.length:=by rw[KU];exact(List.getElem?_eq_some_iff.1 Ta).1
        obtain⟨aN,ZO,rfl,_,_⟩:=hF.slice (i:=1) rfl;obtain⟨gK,ZB,rfl,_,_⟩:=hF.sliceAt (i:=4) rfl ω;obtain⟨u,hu⟩:∃u,us[t]?=some u:=⟨_,QN CX⟩;obtain⟨au,cu,rfl,_,_⟩:=hF.slice (i:=t+5) (OH hu Ta);have hnl:nps.length=a+(d'+1+(upto J nc).size):=by rw[←VD (f:=(·.1)),hL,ZU,HA.out,(L8 (p:=p) (a:=a) BK.out J).1]
        have Q3q:lj.length≤60000:=by rw[←YI,JS,Jc,J'.out];omega
        have FO:(upto J nc).size≤nc.size:=Uh J nc;obtain⟨NN,TM⟩:=Mem.QD (nps.length);have hN6:NN≤60000:=by have:=Hh.out;have:=Bg.out;omega
        obtain⟨cN,LF⟩:=Mem.QD (nps.flatMap VC);obtain⟨nP,LB⟩:=Mem.QD ((ps++tP p a (d'+1) J f).length);obtain⟨nS,Lc⟩:=Mem.QD ((zs++tS (d'+1) J f).length);obtain⟨nK,LX⟩:=Mem.QD (us.length);obtain⟨cP,LD⟩:=Mem.QD ((ps++tP p a (d'+1) J f).map iv);obtain⟨cS,XE⟩:=Mem.QD ((zs++tS (d'+1) J f).map iv);obtain⟨kk,hkk⟩:=Mem.QD (ks++Py a d' J 0 f);rw[TM,LF,LB,Lc,LX,LD,XE,hkk]at hF;rw[hkk]at Ta KU;rw[TM]at hnl;rw[LX]at CX;have Bf:=QA hF;have Ik:=QA hu;have zh:=QA Ta;have NW:=QA Q3q;have OT:=QA hL;have uw:=QA VX;have vZ:=QA KU;have aQ:=QA TM;have OS:=QA LF;have aO:=QA LB;have aL:=QA LD;have BF:=QA Lc;have aJ:=QA XE;have Iq:=QA LX;have TU:=QA hnl;have KA:=QA hkk;have jd:=QA YI;have nY:(t:Int)<(nK:Int):=ω
        have HWT:=QA (show IntKind.i64.wrap ((t:Int)+1)=(t:Int)+1 by rw[IntKind.wrap_i64];omega);have ht0:(0:Int)≤(t:Int):=ω
        clear hF hL VX KU Ta hu Q3q TM LF LB LD Lc XE LX hnl hkk YI CX FO;refine Z3 (GL w6 B (fun jj=>([some (π (some ⟨g,0,none⟩)),some (π (some ⟨g,0,none⟩)),some (π (some ⟨g,3,none⟩)),some (ς (some ⟨gK,0,none⟩) nK ZB),some (ι γ (t:Int)),some (π (some ⟨g,0,none⟩)),some (π (some ⟨g,0,none⟩)),some (π (some ⟨g,3,none⟩)),some (ς (some ⟨gK,0,none⟩) nK ZB),some (ι γ (t:Int)),some (π (some ⟨gK,t,none⟩)),some (ς au lj.length cu),some (ι γ (t:Int)),some (ι γ ((t:Int)+1)),none,none,some (π (some ⟨gK,t,none⟩)),none]:List (Option Value)).getD jj none) (fun jj=>([none,none,none,none,none,none,none,none,none,none,none,none,none,none,none,none,none,none]:List (Option (Value→Value))).getD jj none) 99 14 15 98 17 (fun b m=>match b with|false=>PR g (ς aN NN ZO) vP vS (ς (some ⟨gK,0,none⟩) nK ZB) NN cN nP cP nS cS nK us us kk XX|true=>(fun _=>PR g (ς aN NN ZO) vP vS (ς (some ⟨gK,0,none⟩) nK ZB) NN cN nP cP nS cS nK us us kk XX) m) (fun _=>[ι γ ((t:Int)+1)]) (fun e s m v=>match s,e with|false,false=>(fun _ v=>(PR g (ς aN NN ZO) vP vS (ς (some ⟨gK,0,none⟩) nK ZB) NN cN nP cP nS cS nK us us kk XX).set (t+5) (Qb 3 1 v (lj.length+1) (lj.map nv++[ι γ ((t:Int)+1)]))) m v|false,true=>(fun _ v=>(PR g (ς aN NN ZO) vP vS (ς (some ⟨gK,0,none⟩) nK ZB) NN cN nP cP nS cS nK us us kk XX).set (t+5) (Qb 3 1 v (lj.length+1) (lj.map nv++[ι γ ((t:Int)+1)]))) m v|true,false=>(fun _ v=>((PR g (ς aN NN ZO) vP vS (ς (some ⟨gK,0,none⟩) nK ZB) NN cN nP cP nS cS nK us us kk XX).set (t+5) (Qb 3 1 v (lj.length+1) (lj.map nv++[ι γ ((t:Int)+1)]))).set 4 (Qb 32 1 (ς (some ⟨gK,0,none⟩) nK ZB) nK (us.set t v))) m v|true,true=>(fun _ v=>((PR g (ς aN NN ZO) vP vS (ς (some ⟨gK,0,none⟩) nK ZB) NN cN nP cP nS cS nK us us kk XX).set (t+5) (Qb 3 1 v (lj.length+1) (lj.map nv++[ι γ ((t:Int)+1)]))).set 4 (Qb 32 1 (ς (some ⟨gK,0,none⟩) nK ZB) nK (us.set t v))) m v)) χ δ χ (fun _=>GL.start Bf.out (fun _=>rfl)) ?steps ?done
        case steps =>
         intro L xv W hI hcl a ha;have VF:B≤W.heap.size:=QW (show B≤w6.heap.size from Bf.out.B) hI.QF.size;simp only[Qi]at ha;simp only[ZC,ZA,QZ,ZL,Nat.reduceAdd]at ha;subst ha;refine⟨?s0,?s1,?s2,?s3,?s4,?s5,?s6,?s7,?s8,?s9,?JQ,?GA,?YU,?EU,?UU,?PA,?ED,?SK,trivial⟩;all_goals intro hL hd K hK
         all_goals(try simp only[Act.put,ZC,ZA,QZ]at hK)
         case s0|s4|s5|s9|YU=>clear hd;exact c14
         case s1=>exact c59
         case s2=>exact c60
         case s3 =>
          have hx2:=hI.kc 2 _ rfl (hd 2 χ);have Ns:W.cell? ⟨g,3,none⟩=some (ς (some ⟨gK,0,none⟩) nK ZB):=by
           cases hA:L 15 with
           |false=>have hF:QH W B (PR g (ς aN NN ZO) vP vS (ς (some ⟨gK,0,none⟩) nK ZB) NN cN nP cP nS cS nK us us kk XX):=by have h:=hI.f0 hA;cases hm:L 99 with|false=>rw[hm]at h;exact h|true=>rw[hm]at h;exact h
                   exact c166
           |true=>have hF:QH W B ((fun _ v=>(PR g (ς aN NN ZO) vP vS (ς (some ⟨gK,0,none⟩) nK ZB) NN cN nP cP nS cS nK us us kk XX).set (t+5) (Qb 3 1 v (lj.length+1) (lj.map nv++[ι γ ((t:Int)+1)]))) (xv 99) (xv 15)):=by have h:=hI.f1 hA;rw[show L 17=false from(Qh (i:=16) (r:=17) hcl (Qh (i:=3) (r:=16) hcl hL χ) χ)]at h;cases he:L 98 with|false=>rw[he]at h;exact h|true=>rw[he]at h;exact h
                  exact c166
          clear hd;rw[hx2]at hK⊢;exact c14
         case s6=>have JB:=hI.kc 5 _ rfl (hd 5 χ);clear hd;rw[JB]at hK⊢;exact c14
         case s7=>exact c93
         case s8 =>
          have YX:=hI.kc 7 _ rfl (hd 7 χ);have hF:QH W B (PR g (ς aN NN ZO) vP vS (ς (some ⟨gK,0,none⟩) nK ZB) NN cN nP cP nS cS nK us us kk XX):=by have h:=hI.f0 (Qh (i:=11) (r:=15) hcl (Qh (i:=10) (r:=11) hcl (Qh (i:=8) (r:=10) hcl hL χ) χ) χ);cases hm:L 99 with|false=>rw[hm]at h;exact h|true=>rw[hm]at h;exact h
          exact c123
         case JQ=>exact c98
         case GA =>
          have ZE:=hI.kc 10 _ rfl (hd 10 χ);have hF:QH W B (PR g (ς aN NN ZO) vP vS (ς (some ⟨gK,0,none⟩) nK ZB) NN cN nP cP nS cS nK us us kk XX):=by have h:=hI.f0 (Qh (i:=11) (r:=15) hcl hL χ);cases hm:L 99 with|false=>rw[hm]at h;exact h|true=>rw[hm]at h;exact h
          clear hd;have zT:=hF.cell (i:=4) rfl Ik.out;rw[ZE]at hK⊢;exact c14
         case EU=>have XL:=hI.kc 12 _ rfl (hd 12 χ);clear hd;have hwr:=HWT.out;rw[XL]at hK⊢;exact c14
         case UU=>have YY:=hI.kc 13 _ rfl (hd 13 χ);clear hd;rw[YY]at hK⊢;refine(if_pos (by rfl)).mpr ?_;have UJ:=Qa W (θ #[ι γ ((t:Int)+1)] 3);have hcn:=Vk W [ι γ ((t:Int)+1)] 3;exact c83
         case PA =>
          have JE:=hI.kc 11 _ rfl (hd 11 χ);have hF:QH W B (PR g (ς aN NN ZO) vP vS (ς (some ⟨gK,0,none⟩) nK ZB) NN cN nP cP nS cS nK us us kk XX):=by have h:=hI.f0 hL;cases hm:L 99 with|false=>rw[hm]at h;exact h|true=>rw[hm]at h;exact h
          obtain⟨gb,cb,Fj,hcb⟩:=hI.fb (hd 14 χ) hL;exact c52
         case ED=>exact c97
         case SK =>
          have PG:=hI.kc 16 _ rfl (hd 16 χ);have hA:=hd 15 χ;have hF:QH W B ((fun _ v=>(PR g (ς aN NN ZO) vP vS (ς (some ⟨gK,0,none⟩) nK ZB) NN cN nP cP nS cS nK us us kk XX).set (t+5) (Qb 3 1 v (lj.length+1) (lj.map nv++[ι γ ((t:Int)+1)]))) (xv 99) (xv 15)):=by have h:=hI.f1 hA;rw[hL]at h;cases he:L 98 with|false=>rw[he]at h;exact h|true=>rw[he]at h;exact h
          clear hd;have zT:=hF.cell (i:=4) rfl Ik.out;have zku:=hF.JO (i:=4) rfl t;obtain⟨aS,cS,Ch,_,_⟩:=hF.slice (i:=t+5) (Gk (OH Ik.out zh.out));have Ha:=hF.store (i:=4) rfl (t) (xv 15);rw[show W.setCell ⟨gK,t,none⟩ (xv 15)=W.setCell ⟨gK,t,none⟩ (ς aS _ cS)from by rw[Ch]]at Ha;rw[PG]at hK⊢;exact c38
        case done =>
         intro Lq xv W hI hall a ha;have hF:QH W B ((fun _ v=>((PR g (ς aN NN ZO) vP vS (ς (some ⟨gK,0,none⟩) nK ZB) NN cN nP cP nS cS nK us us kk XX).set (t+5) (Qb 3 1 v (lj.length+1) (lj.map nv++[ι γ ((t:Int)+1)]))).set 4 (Qb 32 1 (ς (some ⟨gK,0,none⟩) nK ZB) nK (us.set t v))) (xv 99) (xv 15)):=by have h:=hI.f1 (hall 15 δ);rw[hall 17 δ]at h;cases he:Lq 98 with|false=>rw[he]at h;exact h|true=>rw[he]at h;exact h
         have hBl:=hI.QF;have hx0:=hI.kc 0 _ rfl (hall 0 δ);have hx1:=hI.kc 1 _ rfl (hall 1 δ);have hx2:=hI.kc 2 _ rfl (hall 2 δ);have hx3:=hI.kc 3 _ rfl (hall 3 δ);have JJ:=hI.kc 4 _ rfl (hall 4 δ);have JB:=hI.kc 5 _ rfl (hall 5 δ);have JR:=hI.kc 6 _ rfl (hall 6 δ);have YX:=hI.kc 7 _ rfl (hall 7 δ);have UX:=hI.kc 8 _ rfl (hall 8 δ);have Lx:=hI.kc 9 _ rfl (hall 9 δ);have ZE:=hI.kc 10 _ rfl (hall 10 δ);have JE:=hI.kc 11 _ rfl (hall 11 δ);have XL:=hI.kc 12 _ rfl (hall 12 δ);have YY:=hI.kc 13 _ rfl (hall 13 δ);have PG:=hI.kc 16 _ rfl (hall 16 δ);simp only[Qi]at ha;simp only[ZC,ZA,QZ,ZL,Nat.reduceAdd]at ha;subst ha;clear hI hall;have HE:=YC.out.appended (q:=t+1) OT.out uw.out (by rw[KA.out];exact vZ.out) aQ.out OS.out aO.out aL.out BF.out aJ.out Iq.out (by rw[KA.out];exact zh.out) (by rw[KA.out];exact hF) hBl;have hpl:=Ŧ (a+d'+1) IH.out;have ZV:=Ą (q:=t+1) J 0 BK.out ks Ba.out (by rw[hpl,←HT.out];rfl);rw[HT.out,jd.out]at ZV;rw[←MB.out]at HE;have gD:J=max 1 (0+1):=by have:=sH.out;omega
         have GZ:=(HE.less YL.out).cast rfl rfl rfl ZV;rw[gD]at GZ;have vX:=QA GZ;clear GZ;have Rf:=QA ((Af.out.trans GG.out).trans hBl);clear hF hBl HE ZV hpl gD hx0 hx1 hx2 hx3 JJ JB JR YX UX Lx ZE JE XL YY PG;go_wp2
         go_roundw
         case rel=>exact⟨0+1,by have:=MH.out;omega,by go_num,vX.out,Rf.out⟩
         case measure=>have:=MH.out;simp[intOf];omega
       ·have mY:((j:Int)==0)=false:=by simp;omega
        obtain rfl:j=J:=by have:=sH.out;omega
        go_wp2;clear e0 e1 e2 e3;obtain⟨XX,Mm⟩:=Mem.QD (Kf 24 wr.heap.size [ι γ k3,σ x3,σ y3,ς A3 c3.len C3]::X);rw[show Kf 24 wr.heap.size [ι γ k3,σ x3,σ y3,ς A3 c3.len C3]::X=XX from Mm]at YC;have MB:=QA Mm;clear Mm;obtain⟨gk,xm⟩:=Mem.QD (wr.heap.size);have HGK:=QA xm;obtain⟨w6,GS⟩:=Mem.QD ((wr.alloc (θ #[ι γ k3,σ x3,σ y3,ς A3 c3.len C3] 24)));rw[GS]at YC GG LJ⊢;rw[xm];clear GS xm;obtain⟨vN,vP,vS,vK,us,nps,hF,hL,VX,KU⟩:=YC.out.all;have Ta:=à (a:=a) j j BK.out ks Ba.out;rw[HT.out]at Ta;obtain⟨lj,YI⟩:=Mem.QD ((places (t+1) nc).take j);rw[YI]at Ta;have CX:t<us.length:=by rw[KU];exact(List.getElem?_eq_some_iff.1 Ta).1
        obtain⟨aN,ZO,rfl,_,_⟩:=hF.slice (i:=1) rfl;obtain⟨gK,ZB,rfl,_,_⟩:=hF.sliceAt (i:=4) rfl ω;obtain⟨u,hu⟩:∃u,us[t]?=some u:=⟨_,QN CX⟩;obtain⟨au,cu,rfl,_,_⟩:=hF.slice (i:=t+5) (OH hu Ta);have hnl:nps.length=a+(d'+1+(upto j nc).size):=by rw[←VD (f:=(·.1)),hL,ZU,HA.out,(L8 (p:=p) (a:=a) BK.out j).1]
        have Q3q:lj.length≤60000:=by rw[←YI,JS,Jc,J'.out];omega
        have FO:(upto j nc).size≤nc.size:=Uh j nc;obtain⟨NN,TM⟩:=Mem.QD (nps.length);have hN6:NN≤60000:=by have:=Hh.out;have:=Bg.out;omega
        obtain⟨cN,LF⟩:=Mem.QD (nps.flatMap VC);obtain⟨nP,LB⟩:=Mem.QD ((ps++tP p a (d'+1) j f).length);obtain⟨nS,Lc⟩:=Mem.QD ((zs++tS (d'+1) j f).length);obtain⟨nK,LX⟩:=Mem.QD (us.length);obtain⟨cP,LD⟩:=Mem.QD ((ps++tP p a (d'+1) j f).map iv);obtain⟨cS,XE⟩:=Mem.QD ((zs++tS (d'+1) j f).map iv);obtain⟨kk,hkk⟩:=Mem.QD (ks++Py a d' j j f);rw[TM,LF,LB,Lc,LX,LD,XE,hkk]at hF;rw[hkk]at Ta KU;rw[TM]at hnl;rw[LX]at CX;have Bf:=QA hF;have Ik:=QA hu;have zh:=QA Ta;have NW:=QA Q3q;have OT:=QA hL;have uw:=QA VX;have vZ:=QA KU;have aQ:=QA TM;have OS:=QA LF;have aO:=QA LB;have aL:=QA LD;have BF:=QA Lc;have aJ:=QA XE;have Iq:=QA LX;have TU:=QA hnl;have KA:=QA hkk;have jd:=QA YI;have nY:(t:Int)<(nK:Int):=ω
        have HWT:=QA (show IntKind.i64.wrap ((t:Int)+1)=(t:Int)+1 by rw[IntKind.wrap_i64];omega);have ht0:(0:Int)≤(t:Int):=ω
        clear hF hL VX KU Ta hu Q3q TM LF LB LD Lc XE LX hnl hkk YI CX FO;refine Z3 (GL w6 B (fun jj=>([some (π (some ⟨g,0,none⟩)),some (π (some ⟨g,0,none⟩)),some (π (some ⟨g,3,none⟩)),some (ς (some ⟨gK,0,none⟩) nK ZB),some (ι γ (t:Int)),some (π (some ⟨g,0,none⟩)),some (π (some ⟨g,0,none⟩)),some (π (some ⟨g,3,none⟩)),some (ς (some ⟨gK,0,none⟩) nK ZB),some (ι γ (t:Int)),some (π (some ⟨gK,t,none⟩)),some (ς au lj.length cu),some (π (some ⟨g,0,none⟩)),some (π (some ⟨g,0,none⟩)),some (π (some ⟨g,0,none⟩)),some (ς aN NN ZO),some (ι γ (NN:Int)),none,none,some (π (some ⟨gK,t,none⟩)),none]:List (Option Value)).getD jj none) (fun jj=>([none,none,none,none,none,none,none,none,none,none,none,none,none,none,none,none,none,none,none,none,none]:List (Option (Value→Value))).getD jj none) 99 17 18 98 20 (fun b m=>match b with|false=>PR g (ς aN NN ZO) vP vS (ς (some ⟨gK,0,none⟩) nK ZB) NN cN nP cP nS cS nK us us kk XX|true=>(fun _=>PR g (ς aN NN ZO) vP vS (ς (some ⟨gK,0,none⟩) nK ZB) NN cN nP cP nS cS nK us us kk XX) m) (fun _=>[ι γ ((NN:Int))]) (fun e s m v=>match s,e with|false,false=>(fun _ v=>(PR g (ς aN NN ZO) vP vS (ς (some ⟨gK,0,none⟩) nK ZB) NN cN nP cP nS cS nK us us kk XX).set (t+5) (Qb 3 1 v (lj.length+1) (lj.map nv++[ι γ ((NN:Int))]))) m v|false,true=>(fun _ v=>(PR g (ς aN NN ZO) vP vS (ς (some ⟨gK,0,none⟩) nK ZB) NN cN nP cP nS cS nK us us kk XX).set (t+5) (Qb 3 1 v (lj.length+1) (lj.map nv++[ι γ ((NN:Int))]))) m v|true,false=>(fun _ v=>((PR g (ς aN NN ZO) vP vS (ς (some ⟨gK,0,none⟩) nK ZB) NN cN nP cP nS cS nK us us kk XX).set (t+5) (Qb 3 1 v (lj.length+1) (lj.map nv++[ι γ ((NN:Int))]))).set 4 (Qb 32 1 (ς (some ⟨gK,0,none⟩) nK ZB) nK (us.set t v))) m v|true,true=>(fun _ v=>((PR g (ς aN NN ZO) vP vS (ς (some ⟨gK,0,none⟩) nK ZB) NN cN nP cP nS cS nK us us kk XX).set (t+5) (Qb 3 1 v (lj.length+1) (lj.map nv++[ι γ ((NN:Int))]))).set 4 (Qb 32 1 (ς (some ⟨gK,0,none⟩) nK ZB) nK (us.set t v))) m v)) χ δ χ (fun _=>GL.start Bf.out (fun _=>rfl)) ?steps ?done
        case steps =>
         intro L xv W hI hcl a ha;have VF:B≤W.heap.size:=QW (show B≤w6.heap.size from Bf.out.B) hI.QF.size;simp only[Qi]at ha;simp only[ZC,ZA,QZ,ZL,Nat.reduceAdd]at ha;subst ha;refine⟨?s0,?s1,?s2,?s3,?s4,?s5,?s6,?s7,?s8,?s9,?JQ,?GA,?YU,?EU,?UU,?PA,?ED,?SK,?BS,?Aq,?SJ,trivial⟩;all_goals intro hL hd K hK
         all_goals(try simp only[Act.put,ZC,ZA,QZ]at hK)
         case s0|s4|s5|s9|YU=>clear hd;exact c14
         case s1=>exact c59
         case s2=>exact c60
         case s3 =>
          have hx2:=hI.kc 2 _ rfl (hd 2 χ);have Ns:W.cell? ⟨g,3,none⟩=some (ς (some ⟨gK,0,none⟩) nK ZB):=by
           cases hA:L 18 with
           |false=>have hF:QH W B (PR g (ς aN NN ZO) vP vS (ς (some ⟨gK,0,none⟩) nK ZB) NN cN nP cP nS cS nK us us kk XX):=by have h:=hI.f0 hA;cases hm:L 99 with|false=>rw[hm]at h;exact h|true=>rw[hm]at h;exact h
                   exact c166
           |true=>have hF:QH W B ((fun _ v=>(PR g (ς aN NN ZO) vP vS (ς (some ⟨gK,0,none⟩) nK ZB) NN cN nP cP nS cS nK us us kk XX).set (t+5) (Qb 3 1 v (lj.length+1) (lj.map nv++[ι γ ((NN:Int))]))) (xv 99) (xv 18)):=by have h:=hI.f1 hA;rw[show L 20=false from(Qh (i:=19) (r:=20) hcl (Qh (i:=3) (r:=19) hcl hL χ) χ)]at h;cases he:L 98 with|false=>rw[he]at h;exact h|true=>rw[he]at h;exact h
                  exact c166
          clear hd;rw[hx2]at hK⊢;exact c14
         case s6=>have JB:=hI.kc 5 _ rfl (hd 5 χ);clear hd;rw[JB]at hK⊢;exact c14
         case s7=>exact c93
         case s8 =>
          have YX:=hI.kc 7 _ rfl (hd 7 χ);have hF:QH W B (PR g (ς aN NN ZO) vP vS (ς (some ⟨gK,0,none⟩) nK ZB) NN cN nP cP nS cS nK us us kk XX):=by have h:=hI.f0 (Qh (i:=11) (r:=18) hcl (Qh (i:=10) (r:=11) hcl (Qh (i:=8) (r:=10) hcl hL χ) χ) χ);cases hm:L 99 with|false=>rw[hm]at h;exact h|true=>rw[hm]at h;exact h
          exact c123
         case JQ=>exact c98
         case GA =>
          have ZE:=hI.kc 10 _ rfl (hd 10 χ);have hF:QH W B (PR g (ς aN NN ZO) vP vS (ς (some ⟨gK,0,none⟩) nK ZB) NN cN nP cP nS cS nK us us kk XX):=by have h:=hI.f0 (Qh (i:=11) (r:=18) hcl hL χ);cases hm:L 99 with|false=>rw[hm]at h;exact h|true=>rw[hm]at h;exact h
          clear hd;have zT:=hF.cell (i:=4) rfl Ik.out;rw[ZE]at hK⊢;exact c14
         case EU=>have XL:=hI.kc 12 _ rfl (hd 12 χ);clear hd;rw[XL]at hK⊢;exact c14
         case UU=>have YY:=hI.kc 13 _ rfl (hd 13 χ);clear hd;rw[YY]at hK⊢;exact c14
         case PA =>
          have PH:=hI.kc 14 _ rfl (hd 14 χ);have hF:QH W B (PR g (ς aN NN ZO) vP vS (ς (some ⟨gK,0,none⟩) nK ZB) NN cN nP cP nS cS nK us us kk XX):=by have h:=hI.f0 (Qh (i:=17) (r:=18) hcl (Qh (i:=16) (r:=17) hcl (Qh (i:=15) (r:=16) hcl hL χ) χ) χ);cases hm:L 99 with|false=>rw[hm]at h;exact h|true=>rw[hm]at h;exact h
          clear hd;obtain⟨⟨q0,q1,q2,q3⟩,z0,z1,z2,z3⟩:=Zr hF (j:=0) rfl;rw[PH]at hK⊢;exact c14
         case ED=>have EZ:=hI.kc 15 _ rfl (hd 15 χ);clear hd;rw[EZ]at hK⊢;exact c14
         case SK=>have PG:=hI.kc 16 _ rfl (hd 16 χ);clear hd;rw[PG]at hK⊢;refine(if_pos (by rfl)).mpr ?_;have UJ:=Qa W (θ #[ι γ ((NN:Int))] 3);have hcn:=Vk W [ι γ ((NN:Int))] 3;exact c83
         case BS =>
          have JE:=hI.kc 11 _ rfl (hd 11 χ);have hF:QH W B (PR g (ς aN NN ZO) vP vS (ς (some ⟨gK,0,none⟩) nK ZB) NN cN nP cP nS cS nK us us kk XX):=by have h:=hI.f0 hL;cases hm:L 99 with|false=>rw[hm]at h;exact h|true=>rw[hm]at h;exact h
          obtain⟨gb,cb,Fj,hcb⟩:=hI.fb (hd 17 χ) hL;exact c52
         case Aq=>exact c97
         case SJ =>
          have Q3p:=hI.kc 19 _ rfl (hd 19 χ);have hA:=hd 18 χ;have hF:QH W B ((fun _ v=>(PR g (ς aN NN ZO) vP vS (ς (some ⟨gK,0,none⟩) nK ZB) NN cN nP cP nS cS nK us us kk XX).set (t+5) (Qb 3 1 v (lj.length+1) (lj.map nv++[ι γ ((NN:Int))]))) (xv 99) (xv 18)):=by have h:=hI.f1 hA;rw[hL]at h;cases he:L 98 with|false=>rw[he]at h;exact h|true=>rw[he]at h;exact h
          clear hd;have zT:=hF.cell (i:=4) rfl Ik.out;have zku:=hF.JO (i:=4) rfl t;obtain⟨aS,cS,Ch,_,_⟩:=hF.slice (i:=t+5) (Gk (OH Ik.out zh.out));have Ha:=hF.store (i:=4) rfl (t) (xv 18);rw[show W.setCell ⟨gK,t,none⟩ (xv 18)=W.setCell ⟨gK,t,none⟩ (ς aS _ cS)from by rw[Ch]]at Ha;rw[Q3p]at hK⊢;exact c38
        case done =>
         intro Lq xv W hI hall a ha;have hF:QH W B ((fun _ v=>((PR g (ς aN NN ZO) vP vS (ς (some ⟨gK,0,none⟩) nK ZB) NN cN nP cP nS cS nK us us kk XX).set (t+5) (Qb 3 1 v (lj.length+1) (lj.map nv++[ι γ ((NN:Int))]))).set 4 (Qb 32 1 (ς (some ⟨gK,0,none⟩) nK ZB) nK (us.set t v))) (xv 99) (xv 18)):=by have h:=hI.f1 (hall 18 δ);rw[hall 20 δ]at h;cases he:Lq 98 with|false=>rw[he]at h;exact h|true=>rw[he]at h;exact h
         have hBl:=hI.QF;have hx0:=hI.kc 0 _ rfl (hall 0 δ);have hx1:=hI.kc 1 _ rfl (hall 1 δ);have hx2:=hI.kc 2 _ rfl (hall 2 δ);have hx3:=hI.kc 3 _ rfl (hall 3 δ);have JJ:=hI.kc 4 _ rfl (hall 4 δ);have JB:=hI.kc 5 _ rfl (hall 5 δ);have JR:=hI.kc 6 _ rfl (hall 6 δ);have YX:=hI.kc 7 _ rfl (hall 7 δ);have UX:=hI.kc 8 _ rfl (hall 8 δ);have Lx:=hI.kc 9 _ rfl (hall 9 δ);have ZE:=hI.kc 10 _ rfl (hall 10 δ);have JE:=hI.kc 11 _ rfl (hall 11 δ);have XL:=hI.kc 12 _ rfl (hall 12 δ);have YY:=hI.kc 13 _ rfl (hall 13 δ);have PH:=hI.kc 14 _ rfl (hall 14 δ);have EZ:=hI.kc 15 _ rfl (hall 15 δ);have PG:=hI.kc 16 _ rfl (hall 16 δ);have Q3p:=hI.kc 19 _ rfl (hall 19 δ);simp only[Qi]at ha;simp only[ZC,ZA,QZ,ZL,Nat.reduceAdd]at ha;subst ha;clear hI hall;have HE:=YC.out.appended (q:=NN) OT.out uw.out (by rw[KA.out];exact vZ.out) aQ.out OS.out aO.out aL.out BF.out aJ.out Iq.out (by rw[KA.out];exact zh.out) (by rw[KA.out];exact hF) hBl;have hpl:=Ŧ (a+d'+1) IH.out;have ZV:=Ą (q:=NN) j j BK.out ks Ba.out (by rw[hpl,TU.out];congr 1;omega);rw[HT.out,jd.out]at ZV;have uo:=QA (HE.cast rfl rfl rfl ZV);have QO:=QA (YC.out.fs HE hBl LJ.out);have hsz:=K4 j nc k3 x3 y3 c3 r3 IH.out;have Lz:=Uh (j+1) nc;have htl:=L8 (p:=p) (a:=a) BK.out j;have FQ:(L++tN (d'+1) j f).length=a+(d'+1+(upto j nc).size):=by rw[ZU,HA.out,htl.1]
         have XA:=QA (Sm.out c3.size (by have:=hsz.2.2.1;have:=XO.out;have:=Bg.out;omega) k3 x3 y3 A3 c3.len C3 c3 (t:Int) W B S XX g _ _ _ _ (Nat.le_refl _) QO.out uo.out (by rw[FQ,ZU,je.out,htl.2.1]) (by rw[FQ,ZU,uF.out,htl.2.2.1]) (by rw[FQ,ZU,Ba.out,htl.2.2.2]) (by rw[FQ];have:=hsz.2.2.1;have:=Hh.out;have:=Bg.out;omega) ω ω);rw[FQ]at XA;obtain⟨R,hR⟩:=uo.out.GD;obtain⟨⟨m0,m1,m2,m3⟩,f0,f1,f2,f3⟩:=Yi (g:=gk) hR (List.mem_append_right _ (by rw[←MB.out,HGK.out];exact XG));have UG:=QA ((Af.out.trans GG.out).trans hBl);clear hF hBl HE ZV hpl hsz Lz htl FQ hR hx0 hx1 hx2 hx3 JJ JB JR YX UX Lx ZE JE XL YY PH EZ PG Q3p;go_wp2_with fail;refine XA.out.mono ?_;rintro e w7 ⟨rfl,lq,VL⟩;have hk:=Qzm (p:=p) (a:=a) BK.out IH.out (j+1);rw[JZ,JZ,JZ,JZ,←hk.1,←hk.2.2.1,←hk.2.2.2,show((t:Nat):Int)=((a+d':Nat):Int)by rw[HT.out],←hk.2.1]at lq;rw[←MB.out]at lq;have GZ:=lq.less YL.out;have gD:j+1=max 1 (j+1):=ω
         have vX:Hid (PS w7 B S X g (L++tN (d'+1) (max 1 (j+1)) f) (ps++tP p a (d'+1) (max 1 (j+1)) f) (zs++tS (d'+1) (max 1 (j+1)) f) (ks++Py a d' (max 1 (j+1)) (j+1) f)):=by rw[←gD];exact GZ
         have Rf:=QA (UG.out.trans VL);clear GZ lq VL gD hk m0 m1 m2 m3 f0 f1 f2 f3 XA;go_wp2
         go_roundw
         case rel=>exact⟨j+1,by have:=MH.out;omega,by go_num,vX.out,Rf.out⟩
         case measure=>have:=MH.out;simp[intOf];omega
      ·obtain rfl:ln=j:=ω
       have Df:¬(ln:Int)<(ln:Int):=ω
       have hup:=Qz7 (p:=p) (a:=a) (z0:=zs) (k0:=ks) BK.out J ln (by rw[J'.out];have:=sH.out;omega) (by rw[J'.out];exact Nat.le_refl _);have htl:=L8 (p:=p) (a:=a) BK.out J;rw[Ga J nc (by rw[J'.out];have:=sH.out;omega)]at htl;have FQ:(L++tN (d'+1) J f).length=a+(d'+1+nc.size):=by rw[ZU,HA.out,htl.1]
       have dh:(zs++tS (d'+1) J f).length=a+(d'+1+nc.size):=by rw[ZU,uF.out,htl.2.2.1]
       obtain⟨aN,cN,aP,cP,aS,cS,aK,cK,⟨q0,q1,q2,q3⟩,⟨z0,z1,z2,z3⟩,GI⟩:=qT.out.rd;have C9:t<(zs++tS (d'+1) J f).length:=by rw[dh];have:=HT.out;omega
       obtain⟨l2,hl2⟩:=Mem.QD (a+(d'+1+nc.size));rw[FQ,hl2]at q0;rw[dh,hl2]at q2;have ht2:t<l2:=by have:=HT.out;omega
       have Q2t:l2≤60000:=by have:=Hh.out;have:=Bg.out;omega
       obtain⟨gS,u,rfl,hu,zu,hps,hbs⟩:=qT.out.size q2 C9 ((l2:Int)-t);have hval:(l2:Int)-t=((nc.size+1:Nat):Int):=by have:=HT.out;omega
       have ZV:=hup.2.2.1;rw[uF.out,HT.out,←hval]at ZV;rw[ZV]at hps;have vX:=QA (hps.cast (L':=L++tN d' 1 f) (ps':=ps++tP p a d' 1 f) (ks':=ks++tK a d' 1 f) (by rw[hup.1]) (by rw[hup.2.1]) rfl (by rw[hup.2.2.2]));have Rf:=QA ((HB.out.trans Af.out).trans hbs);have Q17:(t:Int)<(l2:Int):=ω
       have ht0:(0:Int)≤(t:Int):=ω
       clear hup htl FQ dh GI C9 hl2 hval ZV hps hbs;go_wp2
       go_region
       go_wp2
       go_roundw
       case rel=>exact⟨d',(t:Int)-1,by have:=HE.out;omega,by have:=HT.out;omega,by go_num,vX.out.later (Kg _),Rf.out.trans ((Kg _).mono vX.out.le)⟩
       case measure=>simp[intOf];omega
theorem pS(M:Nat):Ym M:=by
 induction M using Nat.strongRecOn with
 |_ M ih=>exact fQ M ih
