import Derived.Test.YtmepekognmlblaaGreatDoorS43
set_option maxHeartbeats 32000000
set_option maxRecDepth 100000
set_option linter.unusedVariables false
open Go.ChangeShapes Go.WideShapes Go.ChangeAt Go.RowKit
open Go.Lib renaming hid→QA
open _root_.List renaming setIfInBounds_toArray→ZC,set_cons_succ→ZA,set_cons_zero→QZ,getElem?_eq_getElem→QN
open Go.World renaming block_lt_of_cell?→VJ
open Go.Value renaming string→σ,int→ι,slice→ς,pointer→π,bool→τ,agg→ξ
open Go.IntKind renaming i64→γ
open Go.Obj renaming cells→θ
open Go.Ending renaming returned→ρ
namespace Go.Proofs.YtmepekognmlblaaGreatDoor
namespace Match
open Mem Tree Shape
structure KV(w0:World)(u0 u2:Value)(K0 K1:List Value)(L:Nat→Bool)(x:Nat→Value)(W:World):Prop where
 QF:Below w0.heap.size w0 W
 e0:L 0=true→x 0=u0
 e1:L 1=true→W.ownsRow w0.heap.size 3 1 (x 1) K0.length K0
 e2:L 2=true→x 2=u2
 e3:L 3=true→W.ownsRow w0.heap.size 3 1 (x 3) K1.length K1
 e4:L 4=true→x 4=ξ #[x 1,x 3]∧L 1=true∧L 3=true
 e5:L 5=true→∃g,x 5=π (some ⟨g,0,none⟩)∧w0.heap.size≤g∧∃v1 v2,W.heap[g]?=some (θ #[v1,v2] 58 (0,0))
 e6:L 6=true→(∃g,x 5=π (some ⟨g,0,none⟩)∧W.heap[g]?=some (θ #[x 1,x 3] 58 (0,0)))∧L 4=true∧L 5=true
section
variable {w0 W W':World}{u0 u2:Value}{K0 K1:List Value}{L:Nat→Bool}{x:Nat→Value}
theorem KV.start:KV w0 u0 u2 K0 K1 (fun _=>false) x w0.drew :=
 ⟨⟨rfl,rfl,rfl,Nat.le_refl _,fun _ _=>rfl⟩,fun h=>(by cases h),fun h=>(by cases h),fun h=>(by cases h),fun h=>(by cases h),fun h=>(by cases h),fun h=>(by cases h),fun h=>(by cases h)⟩
theorem KV.later(h:KV w0 u0 u2 K0 K1 L x W)(hb:Below W.heap.size W W'):KV w0 u0 u2 K0 K1 L x W':=by
 have hk:∀(k:Nat)(cs:Array Value)(E:TypeId)(fz:Nat×Nat),W.heap[k]?=some (θ cs E fz)→W'.heap[k]?=some (θ cs E fz):=fun k cs E fz e=>(hb.block k (Array.getElem?_eq_some_iff.1 e).1).trans e
 refine⟨h.QF.trans (hb.mono h.QF.size),h.e0,fun q=>Y2 (h.e1 q) fun k cs fz e=>hk k cs _ fz e,h.e2,fun q=>Y2 (h.e3 q) fun k cs fz e=>hk k cs _ fz e,h.e4,fun q=>?_,fun q=>?_⟩
 ·obtain⟨g,q1,q2,v1,v2,q3⟩:=h.e5 q;exact⟨g,q1,q2,v1,v2,hk _ _ _ _ q3⟩
 ·obtain⟨⟨g,q1,q2⟩,q3⟩:=h.e6 q;exact⟨⟨g,q1,hk _ _ _ _ q2⟩,q3⟩
theorem KV.Fa(h:KV w0 u0 u2 K0 K1 L x W):KV w0 u0 u2 K0 K1 (Zh L 0) (Qq x 0 u0) W:=by
 refine⟨h.QF,fun _=>rfl,?_,?_,?_,?_,?_,?_⟩ <;> simp only[Zh,Qq] <;> intro q
 ·exact h.e1 q
 ·exact h.e2 q
 ·exact h.e3 q
 ·exact h.e4 q
 ·exact h.e5 q
 ·exact h.e6 q
theorem KV.Nc(h:KV w0 u0 u2 K0 K1 L x W):KV w0 u0 u2 K0 K1 (Zh L 2) (Qq x 2 u2) W:=by
 refine⟨h.QF,?_,?_,fun _=>rfl,?_,?_,?_,?_⟩ <;> simp only[Zh,Qq] <;> intro q
 ·exact h.e0 q
 ·exact h.e1 q
 ·exact h.e3 q
 ·exact h.e4 q
 ·exact h.e5 q
 ·exact h.e6 q
theorem KV.EW{v:Value}(h:KV w0 u0 u2 K0 K1 L x W)(hL:L 1=false)(hv:W.ownsRow w0.heap.size 3 1 v K0.length K0):KV w0 u0 u2 K0 K1 (Zh L 1) (Qq x 1 v) W:=by
 refine⟨h.QF,?_,fun _=>hv,?_,?_,?_,?_,?_⟩ <;> simp only[Zh,Qq] <;> intro q
 ·exact h.e0 q
 ·exact h.e2 q
 ·exact h.e3 q
 ·have:=(h.e4 q).2.1;rw[hL]at this;cases this
 ·exact h.e5 q
 ·have:=(h.e4 (h.e6 q).2.1).2.1;rw[hL]at this;cases this
theorem KV.BZ{v:Value}(h:KV w0 u0 u2 K0 K1 L x W)(hL:L 3=false)(hv:W.ownsRow w0.heap.size 3 1 v K1.length K1):KV w0 u0 u2 K0 K1 (Zh L 3) (Qq x 3 v) W:=by
 refine⟨h.QF,?_,?_,?_,fun _=>hv,?_,?_,?_⟩ <;> simp only[Zh,Qq] <;> intro q
 ·exact h.e0 q
 ·exact h.e1 q
 ·exact h.e2 q
 ·have:=(h.e4 q).2.2;rw[hL]at this;cases this
 ·exact h.e5 q
 ·have:=(h.e4 (h.e6 q).2.1).2.2;rw[hL]at this;cases this
theorem KV.KD(h:KV w0 u0 u2 K0 K1 L x W)(h1:L 1=true)(h3:L 3=true):KV w0 u0 u2 K0 K1 (Zh L 4) (Qq x 4 (ξ #[x 1,x 3])) W:=by
 refine⟨h.QF,?_,?_,?_,?_,?_,?_,?_⟩ <;> simp only[Zh,Qq] <;> intro q
 ·exact h.e0 q
 ·exact h.e1 q
 ·exact h.e2 q
 ·exact h.e3 q
 ·exact⟨rfl,h1,h3⟩
 ·exact h.e5 q
 ·exact⟨(h.e6 q).1,rfl,(h.e6 q).2.2⟩
theorem KV.BX{g:Nat}(h:KV w0 u0 u2 K0 K1 L x W)(hL:L 5=false)(hg:w0.heap.size≤g){v1 v2:Value}(hb:W.heap[g]?=some (θ #[v1,v2] 58 (0,0))):KV w0 u0 u2 K0 K1 (Zh L 5) (Qq x 5 (π (some ⟨g,0,none⟩))) W:=by
 refine⟨h.QF,?_,?_,?_,?_,?_,?_,?_⟩ <;> simp only[Zh,Qq] <;> intro q
 ·exact h.e0 q
 ·exact h.e1 q
 ·exact h.e2 q
 ·exact h.e3 q
 ·exact h.e4 q
 ·exact⟨g,rfl,hg,v1,v2,hb⟩
 ·have:=(h.e6 q).2.2;rw[hL]at this;cases this
theorem KV.BW{g:Nat}{v:Value}(h:KV w0 u0 u2 K0 K1 L x W)(h4:L 4=true)(h5:L 5=true)(hx:x 5=π (some ⟨g,0,none⟩))(hg:w0.heap.size≤g)(hk:∀k,k≠g→W'.heap[k]?=W.heap[k]?)(hw:W'.heap[g]?=some (θ #[x 1,x 3] 58 (0,0)))(ho:∃v1 v2,W.heap[g]?=some (θ #[v1,v2] 58 (0,0)))(hb:Below w0.heap.size W W'):KV w0 u0 u2 K0 K1 (Zh L 6) (Qq x 6 v) W':=by
 obtain⟨v1,v2,ho⟩:=ho;have hk2:∀(k:Nat)(cs:Array Value)(fz:Nat×Nat),W.heap[k]?=some (θ cs 3 fz)→W'.heap[k]?=some (θ cs 3 fz):=fun k cs fz e=>(hk k (fun q=>by subst q;rw[ho]at e;cases e)).trans e
 refine⟨h.QF.trans hb,?_,?_,?_,?_,?_,?_,?_⟩ <;> simp only[Zh,Qq] <;> intro q
 ·exact h.e0 q
 ·exact Y2 (h.e1 q) hk2
 ·exact h.e2 q
 ·exact Y2 (h.e3 q) hk2
 ·exact h.e4 q
 ·exact⟨g,hx,hg,_,_,hw⟩
 ·exact⟨⟨g,hx,hw⟩,h4,h5⟩
end
theorem Qdb(k:Int)(x y:ByteArray)(A:Option Addr)(n C:Nat)(c:F)(k':Int)(x' y':ByteArray)(A':Option Addr)(n' C':Nat)(c':F)(Al:Option Addr)(Cl:Nat)(L:List P2)(w:World)(hf:Fs w (Lo w.heap.size) (ς A n C) c)(hf':Fs w (Lo w.heap.size) (ς A' n' C') c')
 (hl:Qm w (Lo w.heap.size) (ς Al L.length Cl) L) (hc:c.size≤100000) (hc':c'.size≤100000) (hL:L.length≤1000000) :
 Calls Tryz.prog 21 #[ξ #[ι γ k,σ x,σ y,ς A n C],ξ #[ι γ k',σ x',σ y',ς A' n' C'],ς Al L.length Cl] w fun e w'=>e=ρ (τ (Z9 (Zy (one k x y c)) (Zy (one k' x' y' c')) L))∧Below w.heap.size w w':=by
 obtain⟨KX,lO⟩:∃K,Zy (one k x y c)=K:=⟨_,rfl⟩;obtain⟨KY,lN⟩:∃K,Zy (one k' x' y' c')=K:=⟨_,rfl⟩;obtain⟨NX,dv⟩:∃N,KX.length=N:=⟨_,rfl⟩;obtain⟨NY,dt⟩:∃N,KY.length=N:=⟨_,rfl⟩;obtain⟨M,hM⟩:=Mem.QD (L.length);have hx:NX≤100001:=by rw[←dv,←lO];unfold Zy;rw[Uv,Qj,Q4];omega
 have hy:NY≤100001:=by rw[←dt,←lN];unfold Zy;rw[Uv,Qj,Q4];omega
 rw[lO,lN];have sB:=QA lO;have Pq:=QA lN;have SB:=QA dv;have BG:=QA dt;have HM:=QA hM;rw[hM]at hl hL⊢;have b1:=Qz w (θ #[ι γ k,σ x,σ y,ς A n C] 24);have q:=J6 w k x y (ς A n C);have b2:=Qz (w.alloc (θ #[ι γ k,σ x,σ y,ς A n C] 24)) (θ #[ι γ k',σ x',σ y',ς A' n' C'] 24);have q':=J6 (w.alloc (θ #[ι γ k,σ x,σ y,ς A n C] 24)) k' x' y' (ς A' n' C');have e1:(w.alloc (θ #[ι γ k,σ x,σ y,ς A n C] 24)).heap.size=w.heap.size+1:=ψ
 rw[e1]at q';have HB:=QA (b1.trans (b2.mono b1.size));have Po:Hid (∀W,Below ((w.alloc (θ #[ι γ k,σ x,σ y,ς A n C] 24)).alloc (θ #[ι γ k',σ x',σ y',ς A' n' C'] 24)).heap.size ((w.alloc (θ #[ι γ k,σ x,σ y,ς A n C] 24)).alloc (θ #[ι γ k',σ x',σ y',ς A' n' C'] 24)) W→_):=fun W hW=>q W (b2.trans (hW.mono b2.size))
 have Pn:=QA q';have LK:=QA ((hf.later b1).later b2);have XY:=QA ((hf'.later b1).later b2);have HL:=QA ((hl.later b1).later b2);have HC:=QA (And.intro hc hc');have Rc:=QA hL;have WU:M≤1000000:=hL;obtain⟨w2,hw2⟩:∃w2,((w.alloc (θ #[ι γ k,σ x,σ y,ς A n C] 24)).alloc (θ #[ι γ k',σ x',σ y',ς A' n' C'] 24))=w2:=⟨_,rfl⟩;rw[hw2]at HB Po Pn LK XY HL;clear lO lN dv dt hM hf hf' hl hc hc' hL b1 q b2 q' e1;go_enter Tryz.func21,Tryz.ntmps21;cases L with
 |nil=>obtain rfl:M=0:=HM.out.symm;exact c23
 |cons p r =>
  obtain⟨x0,y0⟩:=p;obtain⟨b,off,rfl,_,c0,c1⟩:=Qm.at_ HL.out (i:=0) (p:=(x0,y0)) rfl;simp only[Nat.zero_mul,Nat.add_zero]at c0 c1;have hM0:0<M:=by rw[←HM.out];simp
  have dz:((M:Int)==0)=false:=by simp;omega
  have hpe:=ú x0 y0 0 0 w2;by_cases hp0:x0=0∧y0=0
  case neg =>
   have hb:((x0==0)&&(y0==0))=false:=by
    cases h:((x0==0)&&(y0==0))with
    |false=>rfl
    |true=>rw[Bool.and_eq_true,beq_iff_eq,beq_iff_eq]at h;exact absurd h hp0
   rw[hb]at hpe;have hv:Z9 KX KY ((x0,y0)::r)=false:=by
    have:((x0,y0):P2)≠(0,0):=fun e=>hp0 (by injection e with e1 e2;exact⟨e1,e2⟩)
    simp[Z9,this]
   rw[hv];clear hb hv hp0;exact c23
  obtain⟨rfl,rfl⟩:=hp0;rw[show((0:Int)==0&&(0:Int)==0)=true from rfl]at hpe;obtain⟨R,hR⟩:=Mem.QD (X7 KX KY (-1) [] ((0,0)::r));have P':=QA hR;have HE:Hid (Z9 KX KY ((0,0)::r)=R):=by show _=_;rw[←hR];rfl
  obtain⟨L,O5⟩:=Mem.QD (((0,0)::r:List P2));rw[O5]at HL HM P' HE⊢;clear hR O5
  go_upto_region 3 with(fail)
  clear hpe c0 c1 hM0 dz hw2;refine Z3 (KV w2 (ξ #[ι γ k,σ x,σ y,ς A n C]) (ξ #[ι γ k',σ x',σ y',ς A' n' C']) (iV KX) (iV KY)) χ δ χ (fun x=>KV.start) ?steps ?done
  case steps =>
   intro L xv W' hI hcl a ha;simp only[Qi]at ha;simp only[ZC,ZA,QZ,Nat.zero_add,Nat.reduceAdd]at ha;subst ha;refine⟨?s0,?s1,?s2,?s3,?s4,?s5,?s6,trivial⟩;all_goals intro hL hd K hK
   all_goals(try simp only[Act.put,ZC,ZA,QZ]at hK)
   case s0=>clear hd;refine(if_pos (by rfl)).mpr ?_;obtain⟨p0,p1,p2,p3⟩:=Po.out W' hI.QF;go_simp;exact hK.out _ _ hI.Fa
   case s1=>have hx0:xv 0=ξ #[ι γ k,σ x,σ y,ς A n C]:=hI.e0 (hd 0 χ);clear hd;rw[hx0]at hK⊢;refine(if_pos (by rfl)).mpr ?_;have hc:=Qb0 k x y A n C c W' HC.out.1 (LK.out.later hI.QF);rw[sB.out]at hc;go_simp;go_at_call 36;refine hc.mono ?_;rintro e W3 ⟨hb,v,rfl,ho⟩;exact hK.out _ _ ((hI.later hb).EW hL (ib ho hI.QF.size))
   case s2=>clear hd;refine(if_pos (by rfl)).mpr ?_;obtain⟨p0,p1,p2,p3⟩:=Pn.out W' hI.QF;go_simp;exact hK.out _ _ hI.Nc
   case s3=>have hx2:xv 2=ξ #[ι γ k',σ x',σ y',ς A' n' C']:=hI.e2 (hd 2 χ);clear hd;rw[hx2]at hK⊢;refine(if_pos (by rfl)).mpr ?_;have hc:=Qb0 k' x' y' A' n' C' c' W' HC.out.2 (XY.out.later hI.QF);rw[Pq.out]at hc;go_simp;go_at_call 36;refine hc.mono ?_;rintro e W3 ⟨hb,v,rfl,ho⟩;exact hK.out _ _ ((hI.later hb).BZ hL (ib ho hI.QF.size))
   case s4=>have h1:=hd 1 χ;have h3:=hd 3 χ;clear hd;obtain⟨A5,C5,e5⟩:=Jy (hI.e1 h1);obtain⟨A6,C6,e6⟩:=Jy (hI.e3 h3);have hq:=hI.KD h1 h3;rw[e5,e6]at hq⊢;refine(if_pos (by rfl)).mpr ?_;go_simp;rw[e5,e6]at hK;exact hK.out _ _ hq
   case s5=>clear hd;refine(if_pos (by rfl)).mpr ?_;go_simp;exact hK.out _ _ ((hI.later (Qz W' _)).BX hL hI.QF.size (heap_alloc_new W' _))
   case s6 =>
    have h4:=hd 4 χ;have h5:=hd 5 χ;clear hd;have JJ:=(hI.e4 h4).1;obtain⟨g,JB,hg,v1,v2,hbl⟩:=hI.e5 h5;obtain⟨A5,C5,e5⟩:=Jy (hI.e1 (hI.e4 h4).2.1);obtain⟨A6,C6,e6⟩:=Jy (hI.e3 (hI.e4 h4).2.2);rw[JJ,JB]at hK⊢;rw[e5,e6]at hK⊢;refine(if_pos (by rfl)).mpr ?_;have f0:W'.frozen? ⟨g,0,none⟩=false:=by simp[World.frozen?,hbl]
    have f1:W'.frozen? ⟨g,1,none⟩=false:=by simp[World.frozen?,hbl]
    have c0:W'.cell? ⟨g,0,none⟩=some v1:=by simp[World.cell?,hbl]
    have c1:W'.cell? ⟨g,1,none⟩=some v2:=by simp[World.cell?,hbl]
    go_simp;have s1:=Z8 hbl 0 (ς A5 (iV KX).length C5);have s2:=Z8 s1 1 (ς A6 (iV KY).length C6);simp only[ZC,ZA,QZ]at s2;exact hK.out undef _ (hI.BW h4 h5 JB hg (fun k hk=>(J5 _ 1 _ (Ne.symm hk)).trans (J5 _ 0 _ (Ne.symm hk))) (by rw[e5,e6];exact s2) ⟨v1,v2,hbl⟩ (((Below.refl _ W').setCell (p:=⟨g,0,none⟩) hg _).setCell (p:=⟨g,1,none⟩) hg _))
  case done =>
   intro L' xv W hI hall a ha;obtain⟨⟨g,JB,hg⟩,h4,h5⟩:=hI.e6 (hall 6 δ);have r1:=hI.e1 (hall 1 δ);have r3:=hI.e3 (hall 3 δ);obtain⟨A0,C0,hx1,hn0,hm0,VN⟩:=ţ r1;obtain⟨A1,C1,hx3,Ri,EJ,hr1⟩:=ţ r3;rw[hx1,hx3]at hg;have e0:(iV KX).length=NX:=by rw[Xh];exact SB.out
   have e1:(iV KY).length=NY:=by rw[Xh];exact BG.out
   rw[e0,e1]at hg;rw[e1]at Ri;simp only[Qi]at ha;simp only[ZC,ZA,QZ,Nat.zero_add,Nat.reduceAdd]at ha;subst ha;rw[JB];have ue:Hid (W.cell? ⟨g,0,none⟩=some (ς A0 NX C0)):=by show _=_;simp[World.cell?,hg]
   have aD:Hid (W.cell? ⟨g,1,none⟩=some (ς A1 NY C1)):=by show _=_;simp[World.cell?,hg]
   have XQ:=QA VN;have Tt:=QA hr1;have YR:=QA hI.QF;have Rq:=QA (HL.out.later hI.QF);clear hI hall h4 h5 r1 r3 hx1 hx3 hn0 hm0 Ri EJ VN hr1 hg e0 e1 JB;obtain⟨w0,hw0⟩:∃w0,w0=W:=⟨_,rfl⟩;subst hw0;have hmk:=Qlh NY ω w0;have b3:=Qz w0 (θ (bV (List.replicate NY false)).toArray 4);have HK:Hid (ZY (w0.alloc (θ (bV (List.replicate NY false)).toArray 4)) w0.heap.size 4 (bV (V7 NY []))):=by rw[Qhl];exact heap_alloc_new w0 _
   have VG:=QA b3;clear b3;obtain⟨gu,cj⟩:∃g,w0.heap.size=g:=⟨_,rfl⟩;have HGU:=QA cj;rw[cj]at HK;have q1:=aD.out;go_wp2;clear hmk q1;obtain⟨w3,hw3⟩:=Mem.QD (w0.alloc (θ (bV (List.replicate NY false)).toArray 4));rw[hw3]at HK VG⊢;clear hw3 cj
   go_loopw [9,35] (fun s9 s35 W=>∃(i:Nat)(last:Int)(used:List Int),i≤M∧-1≤last∧s35=ι γ (i:Int)∧s9=ι γ last∧Hid (ZY W gu 4 (bV (V7 NY used)))∧Hid (X7 KX KY last used (L.drop i)=R)∧Hid (Below w0.heap.size w0 W)) (fun _ s _=>M-(intOf s).toNat)
   case atStart=>exact⟨0,-1,[],Nat.zero_le _,Int.le_refl _,rfl,rfl,HK,P',VG⟩
   case round =>
    clear HK VG P';obtain⟨i,last,used,hi,Wt,rfl,rfl,HK,P',VG⟩:=hrel;by_cases hlt:i<M
    ·have hlt':(i:Int)<(M:Int):=ω
     have KZ:(0:Int)≤(i:Int):=ω
     have XW:=QA hlt;obtain⟨⟨x,y⟩,hp⟩:∃p,L[i]?=some p:=⟨_,QN (by rw[HM.out];exact hlt)⟩;have HD:Hid (X7 KX KY last used ((x,y)::L.drop (i+1))=R):=by have:=P'.out;rwa[drop_at hp]at this
     obtain⟨b',Ni,e',_,c0,c1⟩:=Qm.at_ (Rq.out.later VG.out) hp;injection e' with e';injection e' with e1 e2;subst e1;subst e2;simp only at c0 c1;clear hp P'
     go_upto_region 9 with(fail)
     have b5:=Qz wr (θ #[ι γ x,ι γ y] 40);have z0:=Vk wr [ι γ x,ι γ y] 40 0 _ rfl;have z1:=Vk wr [ι γ x,ι γ y] 40 1 _ rfl;have z0:(wr.alloc (θ #[ι γ x,ι γ y] 40)).cell? ⟨wr.heap.size,0,none⟩=some (ι γ x):=z0;have z1:(wr.alloc (θ #[ι γ x,ι γ y] 40)).cell? ⟨wr.heap.size,1,none⟩=some (ι γ y):=z1;have jl:=QA (HK.out.keep b5);have LO:=VO VG b5;clear b5 HK VG c0 c1
     go_quiet (fail)
     have uM:Hid (ZY ((wr.alloc (θ #[ι γ x,ι γ y] 40)).drewN nq) gu 4 (bV (V7 NY used))):=jl.out;have KF:Hid (Below w0.heap.size w0 ((wr.alloc (θ #[ι γ x,ι γ y] 40)).drewN nq)):=pO LO.out _;clear jl LO z0 z1;generalize(wr.alloc (θ #[ι γ x,ι γ y] 40)).drewN nq=w4 at *;have q0:=(KF.out.cell (p:=⟨g,0,none⟩) (VJ _ _ ue.out)).trans ue.out;have q1:=(KF.out.cell (p:=⟨g,1,none⟩) (VJ _ _ aD.out)).trans aD.out;have TY:=QA (HB.out.trans ((YR.out.trans (KF.out.mono YR.out.size)).mono HB.out.size));by_cases t1:x≤last
     ·skip
      have HV:Hid (Z9 KX KY L=false):=by
       show _=_;rw[HE.out,←HD.out,Gn];cases hpk:Kj KX KY last used (x,y)with
       |false=>rfl
       |true=>exact c47
      exact c85
     by_cases t2:(NX:Int)≤x
     ·skip
      have HV:Hid (Z9 KX KY L=false):=by
       show _=_;rw[HE.out,←HD.out,Gn];cases hpk:Kj KX KY last used (x,y)with
       |false=>rfl
       |true=>exact c47
      exact c85
     by_cases t3:y<0
     ·skip
      have HV:Hid (Z9 KX KY L=false):=by
       show _=_;rw[HE.out,←HD.out,Gn];cases hpk:Kj KX KY last used (x,y)with
       |false=>rfl
       |true=>exact c47
      exact c85
     by_cases t4:(NY:Int)≤y
     ·skip
      have HV:Hid (Z9 KX KY L=false):=by
       show _=_;rw[HE.out,←HD.out,Gn];cases hpk:Kj KX KY last used (x,y)with
       |false=>rfl
       |true=>exact c47
      exact c85
     obtain⟨xn,rfl⟩:∃xn:Nat,x=(xn:Int):=⟨x.toNat,ω⟩;obtain⟨yn,rfl⟩:∃yn:Nat,y=(yn:Int):=⟨y.toNat,ω⟩;have SQ:xn<NX:=ω
     have Fh:yn<NY:=ω
     have yP:=QA SQ;have Ig:=QA Fh;have GF:Hid (last<(xn:Int)):=by show _<_;omega
     have nG:(0:Int)≤(yn:Int):=ω
     have nR:(0:Int)≤(xn:Int):=ω
     have ke:(yn:Int)<(NY:Int):=ω
     have SP:(xn:Int)<(NX:Int):=ω
     have xG:=uM.out.at_ (wz (G3 (used:=used) Fh));obtain⟨uc,nV⟩:=Mem.QD (used.contains (yn:Int));rw[nV]at xG;have HUC:=QA nV;have t2':¬NX≤xn:=ω
     have t4':¬NY≤yn:=ω
     clear nV SQ Fh
     go_upto_region 12 with(fail)
     cases uc with
     |true =>
      have HV:Hid (Z9 KX KY L=false):=by
       show _=_;rw[HE.out,←HD.out,Gn];cases hpk:Kj KX KY last used ((xn:Int),(yn:Int))with
       |false=>rfl
       |true=>obtain⟨h1,h2,h3,h4,h5,h6⟩:=Vt.1 hpk;rw[HUC.out]at h5;cases h5
      go_quiet (fail)
      exact c146
     |false =>
      obtain⟨kx,hnx⟩:∃nd,KX[xn]?=some nd:=⟨_,QN (by rw[SB.out];exact yP.out)⟩;obtain⟨ky,Oc⟩:∃nd,KY[yn]?=some nd:=⟨_,QN (by rw[BG.out];exact Ig.out)⟩;obtain⟨g0,WZ,WH⟩:=XQ.out xn _ (bJ hnx);obtain⟨g1,hA1,WG⟩:=Tt.out yn _ (bJ Oc);subst WZ;subst hA1;replace WH:=(KF.out.cell (p:=⟨g0,xn,none⟩) (VJ _ _ WH)).trans WH;replace WG:=(KF.out.cell (p:=⟨g1,yn,none⟩) (VJ _ _ WG)).trans WG;have HGX:Hid (KX.getD xn 0=kx):=by show _=_;simp[List.getD,hnx]
      have HGY:Hid (KY.getD yn 0=ky):=by show _=_;simp[List.getD,Oc]
      clear hnx Oc;by_cases hk:kx=ky
      ·subst hk;have d6:(kx==kx)=true:=ψ
       have d7:(kx != kx)=false:=ψ
       have MD:Hid (X7 KX KY (xn:Int) ((yn:Int)::used) (L.drop (i+1))=R):=by have h:=HD.out;have hp:Kj KX KY last used ((xn:Int),(yn:Int))=true:=Vt.2 ⟨GF.out,by rw[SB.out];exact SP,nG,by rw[BG.out];exact ke,HUC.out,by rw[Int.toNat_natCast,Int.toNat_natCast,HGX.out,HGY.out]⟩;show _=_;rw[←h];show _=(_&&_);rw[hp,Bool.true_and]
       go_quiet (fail)
       have jk:Hid (ZY (w4.drewN nq) gu 4 (bV (V7 NY used))):=uM.out;have LO:Hid (Below w0.heap.size w0 (w4.drewN nq)):=pO KF.out _;clear xG WH WG q0 q1 uM KF TY t1 t2 t3 t4 t2' t4';generalize w4.drewN nq=w5 at *;have Nv:=jk.out.at_ (wz (G3 (used:=used) Ig.out));have Mj:=jk.out.free yn;go_wp2
       go_roundw
       case rel=>exact⟨i+1,xn,(yn:Int)::used,(by have:=XW.out;omega),ω,by go_num,rfl,(by have h1:=jk.out.set (i:=yn) (by rw[Qzf,Xv];exact Ig.out) (τ true);rw[Qze,Qhk Ig.out]at h1;exact h1),MD,Zn LO.out (by have:=HGU.out;omega) _ _⟩
       case measure=>have:=XW.out;simp[intOf];omega
      ·have d6:(kx==ky)=false:=by simp[hk]
       have d7:(kx != ky)=true:=by simp[hk]
       have HV:Hid (Z9 KX KY L=false):=by
        show _=_;rw[HE.out,←HD.out,Gn];cases hpk:Kj KX KY last used ((xn:Int),(yn:Int))with
        |false=>rfl
        |true=>obtain⟨h1,h2,h3,h4,h5,h6⟩:=Vt.1 hpk;rw[Int.toNat_natCast,Int.toNat_natCast,HGX.out,HGY.out]at h6;exact absurd h6 hk
       go_quiet (fail)
       exact c146
    ·obtain rfl:M=i:=ω
     have hlt':¬(M:Int)<(M:Int):=ω
     have hv:R=true:=by have:=P'.out;rw[List.drop_eq_nil_of_le (by rw[HM.out];exact Nat.le_refl _)]at this;exact this.symm
     have TY:=QA (HB.out.trans ((YR.out.trans (VG.out.mono YR.out.size)).mono HB.out.size));have HE':Hid (Z9 KX KY L=true):=by show _=_;rw[HE.out,hv]
     clear hlt hv;go_wp2;go_ret;exact⟨by rw[HE'.out];rfl,TY.out⟩
