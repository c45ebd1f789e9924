import Derived.Test.YtmepekognmlblaaGreatDoorS34
set_option maxHeartbeats 16000000
set_option maxRecDepth 100000
set_option linter.unusedVariables false
open Go.Proofs.Tryz Go.ChangeShapes Go.WideShapes Go.ChangeAt Go.RowKit
open Go.Lib renaming hid→QA
open Go.RowKit.Below renaming refl→QE
open _root_.List renaming setIfInBounds_toArray→ZC,set_cons_succ→ZA,set_cons_zero→QZ,length_append→ZU,mem_cons_self→XG,length_map→VD,length_cons→GW,append_assoc→JZ
open _root_.Nat renaming zero_add→ZL,le_trans→QW,le_refl→QI,lt_of_lt_of_le→VE
open Go.Value renaming string→σ,int→ι,slice→ς,pointer→π,agg→ξ
open Go.IntKind renaming i64→γ
open Go.Obj renaming cells→θ
open Go.Ending renaming returned→ρ
namespace Go.Proofs.YtmepekognmlblaaGreatDoor
namespace Shape
open Mem Tree
theorem Qof{k:Int}{x y:ByteArray}{A:Option Addr}{n C:Nat}{c:F}{p:Int}{w w1 W:World}{B:Nat}{S:Nat→Prop}{X XX:List QC}{g gb N nP nS nK:Nat}{L:List Nd}{ps zs:List Int}{ks:List (List Nat)}{cN cP cS us:List Value}{vN vP vS vK m:Value}{nps:List (Nd×Value)}(h:PS w B S X g L ps zs ks)
 (hw:w.alloc (θ #[ι γ k,σ x,σ y,ς A n C] 24)=w1) (hg:w.heap.size=gb) (hX:Kf 24 gb [ι γ k,σ x,σ y,ς A n C]::X=XX)
 (hN:L.length=N) (LF:nps.flatMap VC=cN) (LB:ps.length=nP) (Lc:zs.length=nS) (LX:us.length=nK) (LD:ps.map iv=cP) (XE:zs.map iv=cS) (hL:nps.map (·.1)=L) (hs:∀q∈nps,Fs w1 S q.2 q.1.c) (KU:us.length=ks.length) (hf:Fs w S (ς A n C) c)
 (hF:QH W B (PR g vN vP vS vK (N+1) (cN++[ι γ k,σ x,σ y,ς A n C]) (nP+1) (cP++[iv p]) (nS+1) (cS++[iv 0]) (nK+1) (us++[m]) us ks XX++[Qb 3 1 m 0 []])) (hb:Below B w W):PS W B S X g (L++[⟨k,x,y,c⟩]) (ps++[p]) (zs++[0]) (ks++[[]]):=by
 subst hX;have h1:=Qu0 (l:=[]) KU hF;have hw1:Below w.heap.size w w1:=by rw[←hw];exact Qz w _
 obtain⟨R,h0⟩:=h.GD;have hk:∀b,S b→W.heap[b]?=w.heap[b]?:=by rw[Z4,show ∀(P:List QC)(t:QC),P++t::X=(P++[t])++X from fun P t=>by simp]at h1;exact h.safe.keep h0 h1 hb
 have ZW:∀b,S b→w1.heap[b]?=w.heap[b]?:=h.safe.keep h0 (h0.later hw1) (hw1.mono h.le);have hp:PS W B S (Kf 24 gb [ι γ k,σ x,σ y,ς A n C]::X) g (L++[⟨k,x,y,c⟩]) (ps++[p]) (zs++[0]) (ks++[[]]):=by
  refine⟨⟨vN,vP,vS,vK,us++[m],nps++[(⟨k,x,y,c⟩,ς A n C)],?_,by rw[List.map_append,hL];rfl,fun q hq=>?_,by rw[ZU,ZU,KU];rfl⟩,h.safe.more fun t ht=>List.mem_cons_of_mem _ ht⟩
  ·have hl:nps.length=N:=by rw[←hN,←hL,VD]
   rw[ZU,ZU,ZU,ZU,List.flatMap_append,List.map_append,List.map_append,hl,LF,LB,LD,Lc,XE,LX];exact h1
  ·rcases List.mem_append.1 hq with hq|hq
   ·exact(hs q hq).keep fun b hS=>(hk b hS).trans (ZW b hS).symm
   ·rw[List.mem_singleton.1 hq];exact hf.keep hk
 exact hp.less h.safe
theorem ť(k:Int)(x y:ByteArray)(A:Option Addr)(n C:Nat)(c:F)(p:Int)(w:World)(B:Nat)(S:Nat→Prop)(X:List QC)(g:Nat)(L:List Nd)(ps zs:List Int)(ks:List (List Nat))(hf:Fs w S (ς A n C) c)(hn:n≤100000)
 (h:PS w B S X g L ps zs ks) (h1:L.length≤100000) (h2:ps.length≤100000) (h3:zs.length≤100000) (h4:ks.length≤100000) :
 Calls prog 77 #[π (some ⟨g,0,none⟩),ξ #[ι γ k,σ x,σ y,ς A n C],ι γ p] w fun e w'=>e=ρ (.tuple #[])∧PS w' B S X g (L++[⟨k,x,y,c⟩]) (ps++[p]) (zs++[0]) (ks++[[]])∧Below B w w':=by
 obtain⟨i0,hi0,hz0,hz1,hz2⟩:=info_parts Zq;obtain⟨i1,hi1,hy0,hy1,hy2⟩:=info_parts Gs;obtain⟨i2,hi2,hn0,Ri,Fx⟩:=info_parts Jz;have hb1:=(Qz w (θ #[ι γ k,σ x,σ y,ς A n C] 24)).mono h.le;have hp1:=h.box 24 #[ι γ k,σ x,σ y,ς A n C];have YL:=QA h.safe;have EB:=QA h;have QP:=QA hf;obtain⟨gb,hgb⟩:=Mem.QD (w.heap.size);rw[hgb]at hp1;obtain⟨w1,hw1⟩:=Mem.QD (w.alloc (θ #[ι γ k,σ x,σ y,ς A n C] 24));rw[hw1]at hp1 hb1;have P6:=QA hw1;have Rv:=QA hgb;have HP:=QA hp1;have HB:=QA hb1;obtain⟨vN,vP,vS,vK,us,nps,hF,hL,VX,KU⟩:=hp1.all;obtain⟨aN,ZO,rfl,_,_⟩:=hF.slice (i:=1) rfl;obtain⟨aP,EN,rfl,_,_⟩:=hF.slice (i:=2) rfl;obtain⟨aS,G',rfl,_,_⟩:=hF.slice (i:=3) rfl;obtain⟨aK,ZB,rfl,_,_⟩:=hF.slice (i:=4) rfl;have hnl:nps.length=L.length:=by rw[←hL,VD]
 obtain⟨N,hN⟩:=Mem.QD (nps.length);obtain⟨cN,LF⟩:=Mem.QD (nps.flatMap VC);have hcl:cN.length=N*4:=by rw[←LF,Lm.rE Vn,hN]
 obtain⟨nP,LB⟩:=Mem.QD (ps.length);obtain⟨nS,Lc⟩:=Mem.QD (zs.length);obtain⟨nK,LX⟩:=Mem.QD (us.length);rw[hnl]at hN;obtain⟨cP,LD⟩:=Mem.QD (ps.map iv);obtain⟨cS,XE⟩:=Mem.QD (zs.map iv);rw[hnl,hN,LF,LB,Lc,LX,LD,XE]at hF;obtain⟨XX,Mm⟩:=Mem.QD (Kf 24 gb [ι γ k,σ x,σ y,ς A n C]::X);have hmem:Kf 24 gb [ι γ k,σ x,σ y,ς A n C]∈XX:=by rw[←Mm];exact XG
 rw[show Kf 24 gb [ι γ k,σ x,σ y,ς A n C]::X=XX from Mm]at hF;have HF:=QA hF;have HL:=QA hL;have wP:=QA VX;have vQ:=QA KU;have HN:=QA hN;have HN5:N≤100000:=ω
 have HP5:nP≤100000:=ω
 have HS5:nS≤100000:=ω
 have jk:nK≤100000:=ω
 have aU:=QA LB;have rZ:=QA Lc;have aW:=QA LX;have wV:=QA LF;have Ac:=QA LD;have BL:=QA XE;have MM:=QA hcl;have MB:=QA Mm;have qY:=QA hmem;clear h hf hp1 hb1 hL VX KU hF hN hnl LF LB Lc LX LD XE h1 h2 h3 h4 Mm hmem hcl hgb;go_enter func77,ntmps77;go_wp2;try rw[hw1]
 rw[show w.heap.size=gb from Rv.out];clear hw1;refine Z3 (GL w1 B (fun jj=>([some (π (some ⟨g,0,none⟩)),some (π (some ⟨g,0,none⟩)),some (π (some ⟨g,0,none⟩)),some (ς aN N ZO),some (ξ #[ι γ k,σ x,σ y,ς A n C]),some (ι γ (N:Int)),none,none,none,none,some (π (some ⟨g,0,none⟩)),some (π (some ⟨g,0,none⟩)),none]:List (Option Value)).getD jj none) (fun jj=>([none,none,none,none,none,none,none,none,some (fun v=>pn v (N*4)),none,none,none,none]:List (Option (Value→Value))).getD jj none) 99 6 7 9 12 (fun b m=>match b with|false=>PR g (ς aN N ZO) (ς aP nP EN) (ς aS nS G') (ς aK nK ZB) (N) (cN) (nP) (cP) (nS) (cS) (nK) (us) (us) (ks) XX|true=>(fun _=>PR g (ς aN N ZO) (ς aP nP EN) (ς aS nS G') (ς aK nK ZB) (N) (cN) (nP) (cP) (nS) (cS) (nK) (us) (us) (ks) XX) m) (fun _=>[ι γ 0,σ ⟨#[]⟩,σ ⟨#[]⟩,ς none 0 0]) (fun e s m v=>match s,e with|false,false=>(fun _ v=>(PR g (ς aN N ZO) (ς aP nP EN) (ς aS nS G') (ς aK nK ZB) (N) (cN) (nP) (cP) (nS) (cS) (nK) (us) (us) (ks) XX).set 1 (Qb 24 4 v (N+1) (cN++[ι γ 0,σ ⟨#[]⟩,σ ⟨#[]⟩,ς none 0 0]))) m v|false,true=>(fun _ v=>(PR g (ς aN N ZO) (ς aP nP EN) (ς aS nS G') (ς aK nK ZB) (N) (cN) (nP) (cP) (nS) (cS) (nK) (us) (us) (ks) XX).set 1 (Qb 24 4 v (N+1) (cN++[ι γ k,σ x,σ y,ς A n C]))) m v|true,false=>(fun _ v=>((PR g (ς aN N ZO) (ς aP nP EN) (ς aS nS G') (ς aK nK ZB) (N) (cN) (nP) (cP) (nS) (cS) (nK) (us) (us) (ks) XX).set 1 (Qb 24 4 v (N+1) (cN++[ι γ 0,σ ⟨#[]⟩,σ ⟨#[]⟩,ς none 0 0]))).set 0 (Kf 59 g [v,ς aP nP EN,ς aS nS G',ς aK nK ZB])) m v|true,true=>(fun _ v=>PR g (v) (ς aP nP EN) (ς aS nS G') (ς aK nK ZB) (N+1) (cN++[ι γ k,σ x,σ y,ς A n C]) (nP) (cP) (nS) (cS) (nK) (us) (us) (ks) XX) m v)) χ δ χ (fun _=>GL.start HF.out (fun _=>rfl)) ?steps ?done
 case steps =>
  intro L xv W hI hcl a ha;have VF:B≤W.heap.size:=QW (show B≤w1.heap.size from HF.out.B) hI.QF.size;simp only[Qi]at ha;simp only[ZC,ZA,QZ,ZL,Nat.reduceAdd]at ha;subst ha;refine⟨?s0,?s1,?s2,?s3,?s4,?s5,?s6,?s7,?s8,?s9,?JQ,?GA,?YU,trivial⟩;all_goals intro hL hd K hK
  all_goals(try simp only[Act.put,ZC,ZA,QZ]at hK)
  case s0=>clear hd;exact c14
  case s1|JQ=>exact c59
  case s2=>exact c60
  case s3 =>
   have hx2:=hI.kc 2 _ rfl (hd 2 χ);have hF:QH W B (PR g (ς aN N ZO) (ς aP nP EN) (ς aS nS G') (ς aK nK ZB) (N) (cN) (nP) (cP) (nS) (cS) (nK) (us) (us) (ks) XX):=by have h:=hI.f0 (Qh (i:=3) (r:=7) hcl hL χ);cases hm:L 99 with|false=>rw[hm]at h;exact h|true=>rw[hm]at h;exact h
   clear hd;obtain⟨⟨q0,q1,q2,q3⟩,z0,z1,z2,z3⟩:=Zr hF (j:=0) rfl;rw[hx2]at hK⊢;exact c14
  case s4 =>
   have hF:QH W B (PR g (ς aN N ZO) (ς aP nP EN) (ς aS nS G') (ς aK nK ZB) (N) (cN) (nP) (cP) (nS) (cS) (nK) (us) (us) (ks) XX):=by have h:=hI.f0 (Qh (i:=4) (r:=7) hcl hL χ);cases hm:L 99 with|false=>rw[hm]at h;exact h|true=>rw[hm]at h;exact h
   clear hd;obtain⟨⟨y0,y1,y2,y3⟩,_,_,_,_⟩:=Yi hF (fh qY.out);exact c14
  case s5=>have hx3:=hI.kc 3 _ rfl (hd 3 χ);clear hd;rw[hx3]at hK⊢;exact c14
  case s6=>clear hd;refine(if_pos (by rfl)).mpr ?_;have UJ:=Qa W (θ #[ι γ 0,σ ⟨#[]⟩,σ ⟨#[]⟩,ς none 0 0] 24);have hcn:=Vk W [ι γ 0,σ ⟨#[]⟩,σ ⟨#[]⟩,ς none 0 0] 24;exact c83
  case s7 =>
   have hx0:=hI.kc 0 _ rfl (hd 0 χ);have hx1:=hI.kc 1 _ rfl (hd 1 χ);have hx2:=hI.kc 2 _ rfl (hd 2 χ);have hx3:=hI.kc 3 _ rfl (hd 3 χ);have JJ:=hI.kc 4 _ rfl (hd 4 χ);have JB:=hI.kc 5 _ rfl (hd 5 χ);have hF:QH W B (PR g (ς aN N ZO) (ς aP nP EN) (ς aS nS G') (ς aK nK ZB) (N) (cN) (nP) (cP) (nS) (cS) (nK) (us) (us) (ks) XX):=by have h:=hI.f0 hL;cases hm:L 99 with|false=>rw[hm]at h;exact h|true=>rw[hm]at h;exact h
   obtain⟨gb,cb,Fj,hcb⟩:=hI.fb (hd 6 χ) hL;obtain⟨v',W',hr,hf,hb,_⟩:=hF.VT (i:=1) rfl _ underlying22 hi2 hn0 Ri Fx rfl δ δ rfl hcb (by intro u hu;simp only[List.mem_cons,List.not_mem_nil,or_false]at hu;rcases hu with rfl|rfl|rfl|rfl <;> rfl) ω;rw[hx0]at hK⊢;rw[hx1]at hK⊢;rw[hx2]at hK⊢;rw[hx3]at hK⊢;rw[JJ]at hK⊢;rw[JB]at hK⊢;exact c37
  case s8 =>
   have JB:=hI.kc 5 _ rfl (hd 5 χ);have hA:=hd 7 χ;have hF:∃gq cq,xv 7=ς (some ⟨gq,0,none⟩) (N+1) cq∧N+1≤cq∧cq≤maxLen:=by
    have h:=hI.f1 hA;cases he:L 9 with
    |false=>cases hs:L 12 with
     |false=>exact c105
     |true=>exact c105
    |true=>cases hs:L 12 with
     |false=>exact c105
     |true=>exact c105
   obtain⟨gq,cq,IW,_,_⟩:=hF;have hv:(fun v=>pn v (N*4)) (xv 7)=π (some ⟨gq,N*4,none⟩):=by rw[IW];rfl
   have hlt:(N:Int)<(N:Int)+1:=ω
   clear hd;rw[JB]at hK⊢;rw[IW]at hK⊢;refine(if_pos (by rfl)).mpr ?_;go_simp;exact hK.out _ _ (hI.quiet VF (QE _ _) (.inl rfl) (.inr ⟨_,rfl,hv.symm,hA⟩) δ δ δ δ δ)
  case s9 =>
   have UX:xv 8=pn (xv 7) (N*4):=(hI.kd 8 _ rfl (hd 8 χ)).1;have JJ:=hI.kc 4 _ rfl (hd 4 χ);have hA:=hd 7 χ;have hF:QH W B ((fun e s m v=>match s,e with|false,false=>(fun _ v=>(PR g (ς aN N ZO) (ς aP nP EN) (ς aS nS G') (ς aK nK ZB) (N) (cN) (nP) (cP) (nS) (cS) (nK) (us) (us) (ks) XX).set 1 (Qb 24 4 v (N+1) (cN++[ι γ 0,σ ⟨#[]⟩,σ ⟨#[]⟩,ς none 0 0]))) m v|false,true=>(fun _ v=>(PR g (ς aN N ZO) (ς aP nP EN) (ς aS nS G') (ς aK nK ZB) (N) (cN) (nP) (cP) (nS) (cS) (nK) (us) (us) (ks) XX).set 1 (Qb 24 4 v (N+1) (cN++[ι γ k,σ x,σ y,ς A n C]))) m v|true,false=>(fun _ v=>((PR g (ς aN N ZO) (ς aP nP EN) (ς aS nS G') (ς aK nK ZB) (N) (cN) (nP) (cP) (nS) (cS) (nK) (us) (us) (ks) XX).set 1 (Qb 24 4 v (N+1) (cN++[ι γ 0,σ ⟨#[]⟩,σ ⟨#[]⟩,ς none 0 0]))).set 0 (Kf 59 g [v,ς aP nP EN,ς aS nS G',ς aK nK ZB])) m v|true,true=>(fun _ v=>PR g (v) (ς aP nP EN) (ς aS nS G') (ς aK nK ZB) (N+1) (cN++[ι γ k,σ x,σ y,ς A n C]) (nP) (cP) (nS) (cS) (nK) (us) (us) (ks) XX) m v) false (L 12) (xv 99) (xv 7)):=by have h:=hI.f1 hA;rw[hL]at h;exact h
   clear hd;rw[UX]at hK⊢;rw[JJ]at hK⊢;obtain⟨gq,cq,IW,_,_⟩:=hF.sliceAt (i:=1) (by generalize L 12=e;cases e <;> rfl) ω;have hst:=QH.MP (i:=1) hF (by rw[IW];generalize L 12=e;cases e <;> rfl) (N*4) (ι γ k) (σ x) (σ y) (ς A n C);rw[IW]at hK⊢;have hz:=fun q=>hF.JO (i:=1) (by rw[IW];generalize L 12=e;cases e <;> rfl) (N*4+q)
   obtain⟨z0,z1,z2,z3⟩:=(⟨hz 0,hz 1,hz 2,hz 3⟩:_∧_∧_∧_);have hc:∀r u,([ι γ 0,σ ⟨#[]⟩,σ ⟨#[]⟩,ς none 0 0]:List Value)[r]?=some u→W.cell? ⟨gq,N*4+r,none⟩=some u:=fun r u hr=>hF.cell (i:=1) (xs:=cN++[ι γ 0,σ ⟨#[]⟩,σ ⟨#[]⟩,ς none 0 0]) (by rw[IW];generalize L 12=e;cases e <;> rfl) (by rw[List.getElem?_append_right (by rw[MM.out];omega),MM.out,Nat.add_sub_cancel_left];exact hr)
   have c0:=hc 0 _ rfl;have c1:=hc 1 _ rfl;have c2:=hc 2 _ rfl;have c3:=hc 3 _ rfl;simp only[Nat.add_zero]at c0 z0;rw[show pn (ς (some ⟨gq,0,none⟩) (N+1) cq) (N*4)=π (some ⟨gq,N*4,none⟩)from rfl];rw[Ao cN _ _ _ _ _ _ _ _ (N*4) MM.out]at hst;refine(if_pos (by rfl)).mpr ?_;go_simp;refine hK.out undef _ (hI.put rfl rfl δ δ δ hA hst.2 ?_);rw[IW]at hst⊢;revert hst;generalize L 12=e;intro hst;cases e with|false=>exact hst.1|true=>exact hst.1
  case GA=>have ZE:=hI.kc 10 _ rfl (hd 10 χ);clear hd;rw[ZE]at hK⊢;exact c14
  case YU =>
   have JE:=hI.kc 11 _ rfl (hd 11 χ);have hA:=hd 7 χ;have hF:QH W B ((fun e s m v=>match s,e with|false,false=>(fun _ v=>(PR g (ς aN N ZO) (ς aP nP EN) (ς aS nS G') (ς aK nK ZB) (N) (cN) (nP) (cP) (nS) (cS) (nK) (us) (us) (ks) XX).set 1 (Qb 24 4 v (N+1) (cN++[ι γ 0,σ ⟨#[]⟩,σ ⟨#[]⟩,ς none 0 0]))) m v|false,true=>(fun _ v=>(PR g (ς aN N ZO) (ς aP nP EN) (ς aS nS G') (ς aK nK ZB) (N) (cN) (nP) (cP) (nS) (cS) (nK) (us) (us) (ks) XX).set 1 (Qb 24 4 v (N+1) (cN++[ι γ k,σ x,σ y,ς A n C]))) m v|true,false=>(fun _ v=>((PR g (ς aN N ZO) (ς aP nP EN) (ς aS nS G') (ς aK nK ZB) (N) (cN) (nP) (cP) (nS) (cS) (nK) (us) (us) (ks) XX).set 1 (Qb 24 4 v (N+1) (cN++[ι γ 0,σ ⟨#[]⟩,σ ⟨#[]⟩,ς none 0 0]))).set 0 (Kf 59 g [v,ς aP nP EN,ς aS nS G',ς aK nK ZB])) m v|true,true=>(fun _ v=>PR g (v) (ς aP nP EN) (ς aS nS G') (ς aK nK ZB) (N+1) (cN++[ι γ k,σ x,σ y,ς A n C]) (nP) (cP) (nS) (cS) (nK) (us) (us) (ks) XX) m v) (L 9) false (xv 99) (xv 7)):=by have h:=hI.f1 hA;rw[hL]at h;exact h
   clear hd;obtain⟨⟨q0,q1,q2,q3⟩,z0,z1,z2,z3⟩:=Zr hF (j:=0) (by generalize L 9=e;cases e <;> rfl);obtain⟨aS,cS,Ch,_,_⟩:∃a c,xv 7=ς a (N+1) c∧N+1≤c∧c≤maxLen:=by
    revert hF;generalize L 9=e;intro hF
    cases e with|false=>exact hF.slice (i:=1) rfl|true=>exact hF.slice (i:=1) rfl
   have Ha:=hF.store (i:=0) (by generalize L 9=e;cases e <;> rfl) (0) (xv 7);rw[show W.setCell ⟨g,0,none⟩ (xv 7)=W.setCell ⟨g,0,none⟩ (ς aS _ cS)from by rw[Ch]]at Ha;rw[JE]at hK⊢;rw[Ch]at hK⊢;refine(if_pos (by rfl)).mpr ?_;go_simp;exact hK.out undef _ (hI.store rfl rfl δ δ δ hA Ha.2 (by revert Ha;generalize L 9=e;intro Ha;cases e with|false=>exact Ha.1|true=>exact Ha.1))
 case done =>
  intro L xv W hI hall a ha;have hF:QH W B ((fun _ v=>PR g (v) (ς aP nP EN) (ς aS nS G') (ς aK nK ZB) (N+1) (cN++[ι γ k,σ x,σ y,ς A n C]) (nP) (cP) (nS) (cS) (nK) (us) (us) (ks) XX) (xv 99) (xv 7)):=by have h:=hI.f1 (hall 7 δ);rw[hall 12 δ,hall 9 δ]at h;exact h
  have hBl:=hI.QF;have hx0:=hI.kc 0 _ rfl (hall 0 δ);have hx1:=hI.kc 1 _ rfl (hall 1 δ);have hx2:=hI.kc 2 _ rfl (hall 2 δ);have hx3:=hI.kc 3 _ rfl (hall 3 δ);have JJ:=hI.kc 4 _ rfl (hall 4 δ);have JB:=hI.kc 5 _ rfl (hall 5 δ);have ZE:=hI.kc 10 _ rfl (hall 10 δ);have JE:=hI.kc 11 _ rfl (hall 11 δ);simp only[Qi]at ha;simp only[ZC,ZA,QZ,ZL,Nat.reduceAdd]at ha;subst ha;clear hI hall;obtain⟨v1,hv1⟩:=Mem.QD (xv 7);rw[hv1]at hF;try rw[hv1]
  have hF2:QH W B (PR g (v1) (ς aP nP EN) (ς aS nS G') (ς aK nK ZB) (N+1) (cN++[ι γ k,σ x,σ y,ς A n C]) (nP) (cP) (nS) (cS) (nK) (us) (us) (ks) XX):=hF;have XC:=QA (HB.out.trans hBl);clear hx0 hx1 hx2 hx3 JJ JB ZE JE hF hBl hv1 HF HB;obtain⟨a1,c1,rfl,_,_⟩:=hF2.slice (i:=1) rfl;have SG:=QA hF2;clear hF2;obtain⟨⟨q0,q1,q2,q3⟩,z0,z1,z2,z3⟩:=Zr SG.out (j:=0) rfl;go_wp2_with (at_builtin;refine K7 (i:=2) SG.out rfl rfl _ _ rfl underlying32 hi0 hz0 hz1 hz2 rfl δ rfl _ 1 ψ rfl rfl ω ?_);intro v6 w6 Sy VH;obtain⟨⟨eV,q1',q2',q3'⟩,tj,td,sZ,sY⟩:=Zr Sy (j:=0) rfl;obtain⟨a6,c6,rfl,_,_⟩:=Sy.slice (i:=2) rfl;have mq:=Sy.store (i:=0) rfl 1 (ς a6 (nP+1) c6);have Bf:Hid (QH (w6.setCell ⟨g,1,none⟩ (ς a6 (nP+1) c6)) B (PR g (ς a1 (N+1) c1) (ς a6 (nP+1) c6) (ς aS nS G') (ς aK nK ZB) (N+1) (cN++[ι γ k,σ x,σ y,ς A n C]) (nP+1) (cP++[iv p]) (nS) (cS) (nK) (us) (us) (ks) XX)):=mq.1;have GG:=QA ((XC.out.trans VH).trans mq.2);clear q0 q1 q2 q3 z0 z1 z2 z3 eV q2' q3' tj sZ sY Sy VH mq SG XC;obtain⟨⟨q0,q1,q2,q3⟩,z0,z1,z2,z3⟩:=Zr Bf.out (j:=0) rfl;go_wp2_with (at_builtin;refine K7 (i:=3) Bf.out rfl rfl _ _ rfl underlying32 hi0 hz0 hz1 hz2 rfl δ rfl _ 1 ψ rfl rfl ω ?_);intro v7 w7 Om VL;obtain⟨⟨p0,p1,p2,p3⟩,y0,y1,y2,y3⟩:=Zr Om (j:=0) rfl;obtain⟨a7,c7,rfl,_,_⟩:=Om.slice (i:=3) rfl;have mo:=Om.store (i:=0) rfl 2 (ς a7 (nS+1) c7);have zq:Hid (QH (w7.setCell ⟨g,2,none⟩ (ς a7 (nS+1) c7)) B (PR g (ς a1 (N+1) c1) (ς a6 (nP+1) c6) (ς a7 (nS+1) c7) (ς aK nK ZB) (N+1) (cN++[ι γ k,σ x,σ y,ς A n C]) (nP+1) (cP++[iv p]) (nS+1) (cS++[iv 0]) (nK) (us) (us) (ks) XX)):=mo.1;have UG:=QA ((GG.out.trans VL).trans mo.2);clear q0 q1 q2 q3 z0 z1 z2 z3 q1' td p0 p1 p3 y0 y1 y3 Om VL mo Bf GG;go_wp2_with fail;clear p2 y2;generalize w7.setCell ⟨g,2,none⟩ (ς a7 (nS+1) c7)=w8 at *;refine Z3 (GL w8 B (fun jj=>([some (π (some ⟨g,0,none⟩)),some (π (some ⟨g,0,none⟩)),some (π (some ⟨g,0,none⟩)),some (π (some ⟨g,3,none⟩)),some (ς aK nK ZB),some (π (some ⟨gb,3,none⟩)),some (ς A n C),some (ι γ (n:Int)),none,none,none,some (π (some ⟨g,0,none⟩)),some (π (some ⟨g,3,none⟩)),none]:List (Option Value)).getD jj none) (fun jj=>([none,none,none,none,none,none,none,none,none,none,none,none,none,none]:List (Option (Value→Value))).getD jj none) 8 9 10 98 13 (fun b m=>match b with|false=>PR g (ς a1 (N+1) c1) (ς a6 (nP+1) c6) (ς a7 (nS+1) c7) (ς aK nK ZB) (N+1) (cN++[ι γ k,σ x,σ y,ς A n C]) (nP+1) (cP++[iv p]) (nS+1) (cS++[iv 0]) (nK) (us) (us) (ks) XX|true=>(fun m=>PR g (ς a1 (N+1) c1) (ς a6 (nP+1) c6) (ς a7 (nS+1) c7) (ς aK nK ZB) (N+1) (cN++[ι γ k,σ x,σ y,ς A n C]) (nP+1) (cP++[iv p]) (nS+1) (cS++[iv 0]) (nK) (us) (us) (ks) XX++[Qb 3 1 m 0 []]) m) (fun m=>[m]) (fun e s m v=>match s,e with|false,false=>(fun m v=>(PR g (ς a1 (N+1) c1) (ς a6 (nP+1) c6) (ς a7 (nS+1) c7) (ς aK nK ZB) (N+1) (cN++[ι γ k,σ x,σ y,ς A n C]) (nP+1) (cP++[iv p]) (nS+1) (cS++[iv 0]) (nK) (us) (us) (ks) XX++[Qb 3 1 m 0 []]).set 4 (Qb 32 1 v (nK+1) (us++[m]))) m v|false,true=>(fun m v=>(PR g (ς a1 (N+1) c1) (ς a6 (nP+1) c6) (ς a7 (nS+1) c7) (ς aK nK ZB) (N+1) (cN++[ι γ k,σ x,σ y,ς A n C]) (nP+1) (cP++[iv p]) (nS+1) (cS++[iv 0]) (nK) (us) (us) (ks) XX++[Qb 3 1 m 0 []]).set 4 (Qb 32 1 v (nK+1) (us++[m]))) m v|true,false=>(fun m v=>PR g (ς a1 (N+1) c1) (ς a6 (nP+1) c6) (ς a7 (nS+1) c7) (v) (N+1) (cN++[ι γ k,σ x,σ y,ς A n C]) (nP+1) (cP++[iv p]) (nS+1) (cS++[iv 0]) (nK+1) (us++[m]) (us) (ks) XX++[Qb 3 1 m 0 []]) m v|true,true=>(fun m v=>PR g (ς a1 (N+1) c1) (ς a6 (nP+1) c6) (ς a7 (nS+1) c7) (v) (N+1) (cN++[ι γ k,σ x,σ y,ς A n C]) (nP+1) (cP++[iv p]) (nS+1) (cS++[iv 0]) (nK+1) (us++[m]) (us) (ks) XX++[Qb 3 1 m 0 []]) m v)) χ δ χ (fun _=>GL.start zq.out (fun _=>rfl)) ?steps ?done
  case steps =>
   intro L xv W hI hcl a ha;have VF:B≤W.heap.size:=QW (show B≤w8.heap.size from zq.out.B) hI.QF.size;simp only[Qi]at ha;simp only[ZC,ZA,QZ,ZL,Nat.reduceAdd]at ha;subst ha;refine⟨?s0,?s1,?s2,?s3,?s4,?s5,?s6,?s7,?s8,?s9,?JQ,?GA,?YU,?EU,trivial⟩;all_goals intro hL hd K hK
   all_goals(try simp only[Act.put,ZC,ZA,QZ]at hK)
   case s0|s1|s5=>clear hd;exact c14
   case s2=>exact c60
   case s3=>have hx2:=hI.kc 2 _ rfl (hd 2 χ);clear hd;rw[hx2]at hK⊢;exact c14
   case s4=>have hx3:=hI.kc 3 _ rfl (hd 3 χ);clear hd;have hq:=Yi (hI.f0 (Qh (i:=4) (r:=10) hcl hL χ)) (by cases h8:L 8 <;> exact XG);obtain⟨⟨q0,q1,q2,q3⟩,z0,z1,z2,z3⟩:=hq;rw[hx3]at hK⊢;exact c14
   case s6=>have JB:=hI.kc 5 _ rfl (hd 5 χ);clear hd;have hq:=Yi (g:=gb) (T:=24) (a:=ι γ k) (b:=σ x) (c:=σ y) (d:=ς A n C) (hI.f0 (Qh (i:=9) (r:=10) hcl (Qh (i:=8) (r:=9) hcl (Qh (i:=7) (r:=8) hcl (Qh (i:=6) (r:=7) hcl hL χ) χ) χ) χ)) (by cases h8:L 8 with|false=>exact fh qY.out|true=>exact List.mem_append_left _ (fh qY.out));obtain⟨⟨q0,q1,q2,q3⟩,z0,z1,z2,z3⟩:=hq;rw[JB]at hK⊢;exact c14
   case s7=>exact c93
   case s8 =>
    have YX:=hI.kc 7 _ rfl (hd 7 χ);have O7:=(Qh (i:=9) (r:=10) hcl (Qh (i:=8) (r:=9) hcl hL χ) χ);have hLB:=(Qh (i:=8) (r:=9) hcl hL χ);have hF:QH W B (PR g (ς a1 (N+1) c1) (ς a6 (nP+1) c6) (ς a7 (nS+1) c7) (ς aK nK ZB) (N+1) (cN++[ι γ k,σ x,σ y,ς A n C]) (nP+1) (cP++[iv p]) (nS+1) (cS++[iv 0]) (nK) (us) (us) (ks) XX):=by have h:=hI.f0 O7;rw[show L 8=false from hL]at h;exact h
    clear hd;rw[YX]at hK⊢;refine(if_pos (by rfl)).mpr ?_;obtain⟨W',hr,ho,hg⟩:=run_make_own (P:=prog) W 0 32 3 i0 _ 1 underlying32 hi0 hz0 hz1 γ γ n (by rw[hz2];omega) (by unfold maxLen;omega) (Nat.zero_le _);have hFm:=hF.snoc (t:=Qb 3 1 (ς (some ⟨W.heap.size,0,none⟩) 0 n) 0 []) hg ho (fun q hq=>by have hq:some W.heap.size=some q:=hq;injection hq with hq;omega);go_simp;exact hK.out _ _ (hI.make rfl rfl δ δ δ δ hLB O7 ⟨hg.os,hg.tape,hg.output,hg.size,fun q hq=>hg.block q (Nat.lt_of_lt_of_le hq VF) ψ⟩ hFm)
   case s9 =>
    have hM:=hd 8 χ;have hF:QH W B (PR g (ς a1 (N+1) c1) (ς a6 (nP+1) c6) (ς a7 (nS+1) c7) (ς aK nK ZB) (N+1) (cN++[ι γ k,σ x,σ y,ς A n C]) (nP+1) (cP++[iv p]) (nS+1) (cS++[iv 0]) (nK) (us) (us) (ks) XX++[Qb 3 1 (xv 8) 0 []]):=by have h:=hI.f0 (Qh (i:=9) (r:=10) hcl hL χ);rw[hM]at h;exact h
    obtain⟨am,cm,Fi,_,_⟩:=Q0 (show W.ownsRow 0 3 1 (xv 8) 0 []from hF.h _ (List.mem_append_right _ (List.mem_singleton.2 rfl)));clear hd;rw[Fi]at hK⊢;refine(if_pos (by rfl)).mpr ?_;have UJ:=Qa W (θ #[ς am 0 cm] 32);have hcn:=Vk W [ς am 0 cm] 32;go_simp;exact hK.out _ _ (hI.build VF UJ rfl rfl δ δ δ δ rfl (by rw[Fi];exact hcn))
   case JQ =>
    have JJ:=hI.kc 4 _ rfl (hd 4 χ);have hM:L 8=true:=hcl 9 8 (hd 9 χ) χ;have hF:QH W B ((fun m=>PR g (ς a1 (N+1) c1) (ς a6 (nP+1) c6) (ς a7 (nS+1) c7) (ς aK nK ZB) (N+1) (cN++[ι γ k,σ x,σ y,ς A n C]) (nP+1) (cP++[iv p]) (nS+1) (cS++[iv 0]) (nK) (us) (us) (ks) XX++[Qb 3 1 m 0 []]) (xv 8)):=by have h:=hI.f0 hL;rw[show L 8=true from hM]at h;exact h
    obtain⟨gb,cb,Fj,hcb⟩:=hI.fb (hd 9 χ) hL;obtain⟨am,cm,Fi,_,_⟩:=Q0 (show W.ownsRow 0 3 1 (xv 8) 0 []from hF.h _ (List.mem_append_right _ (List.mem_singleton.2 rfl)));obtain⟨v',W',hr,hf,hb,_⟩:=hF.VT (i:=4) rfl _ underlying33 hi1 hy0 hy1 hy2 rfl δ δ rfl hcb (by intro u hu;rw[List.mem_singleton.1 hu,Fi];rfl) ω;rw[JJ]at hK⊢;exact c37
   case GA=>exact c59
   case YU=>have JE:=hI.kc 11 _ rfl (hd 11 χ);clear hd;rw[JE]at hK⊢;exact c14
   case EU =>
    have XL:=hI.kc 12 _ rfl (hd 12 χ);have hA:=hd 10 χ;have hF:QH W B ((fun m v=>(PR g (ς a1 (N+1) c1) (ς a6 (nP+1) c6) (ς a7 (nS+1) c7) (ς aK nK ZB) (N+1) (cN++[ι γ k,σ x,σ y,ς A n C]) (nP+1) (cP++[iv p]) (nS+1) (cS++[iv 0]) (nK) (us) (us) (ks) XX++[Qb 3 1 m 0 []]).set 4 (Qb 32 1 v (nK+1) (us++[m]))) (xv 8) (xv 10)):=by have h:=hI.f1 hA;rw[hL]at h;cases he:L 98 with|false=>rw[he]at h;exact h|true=>rw[he]at h;exact h
    clear hd;obtain⟨⟨q0,q1,q2,q3⟩,z0,z1,z2,z3⟩:=Zr hF (j:=0) rfl;obtain⟨aS,cS,Ch,_,_⟩:=hF.slice (i:=4) rfl;have Ha:=hF.store (i:=0) rfl (3) (xv 10);rw[show W.setCell ⟨g,3,none⟩ (xv 10)=W.setCell ⟨g,3,none⟩ (ς aS _ cS)from by rw[Ch]]at Ha;rw[XL]at hK⊢;exact c38
  case done =>
   intro L xv W hI hall a ha;have hF:QH W B ((fun m v=>PR g (ς a1 (N+1) c1) (ς a6 (nP+1) c6) (ς a7 (nS+1) c7) (v) (N+1) (cN++[ι γ k,σ x,σ y,ς A n C]) (nP+1) (cP++[iv p]) (nS+1) (cS++[iv 0]) (nK+1) (us++[m]) (us) (ks) XX++[Qb 3 1 m 0 []]) (xv 8) (xv 10)):=by have h:=hI.f1 (hall 10 δ);rw[hall 13 δ]at h;cases he:L 98 with|false=>rw[he]at h;exact h|true=>rw[he]at h;exact h
   have hBl:=hI.QF;have hx0:=hI.kc 0 _ rfl (hall 0 δ);have hx1:=hI.kc 1 _ rfl (hall 1 δ);have hx2:=hI.kc 2 _ rfl (hall 2 δ);have hx3:=hI.kc 3 _ rfl (hall 3 δ);have JJ:=hI.kc 4 _ rfl (hall 4 δ);have JB:=hI.kc 5 _ rfl (hall 5 δ);have JR:=hI.kc 6 _ rfl (hall 6 δ);have YX:=hI.kc 7 _ rfl (hall 7 δ);have JE:=hI.kc 11 _ rfl (hall 11 δ);have XL:=hI.kc 12 _ rfl (hall 12 δ);simp only[Qi]at ha;simp only[ZC,ZA,QZ,ZL,Nat.reduceAdd]at ha;subst ha;clear hI hall;clear hx0 hx1 hx2 hx3 JJ JB JR YX JE XL
   go_end0
   have HE:=Qof EB.out P6.out Rv.out MB.out HN.out wV.out aU.out rZ.out aW.out Ac.out BL.out HL.out wP.out vQ.out QP.out hF (UG.out.trans hBl);exact⟨rfl,HE,UG.out.trans hBl⟩
end Shape
namespace Tree
open Mem
structure qC(w W:World)(B0 B gl ga:Nat)(v v':Value)(L:List Nd)(nd:Nd)(ch:List Nd)(k:Int)(x y:ByteArray)(s:Value)(c:F):Prop where
 add:V' w W B0 B gl ga v v' (L++ch)
 no:some w.heap.size≠v'.ownBlock
 box:Boxed W w.heap.size k x y s
 fs:Fs W (Mi B0 B) s c
 eq:ch++UB c=nd::UB nd.c
theorem V'.list{w W:World}{B0 B gl ga:Nat}{v v':Value}{L L':List Nd}(h:V' w W B0 B gl ga v v' L)(e:L=L'):V' w W B0 B gl ga v v' L':=e ▸ h
def Ym(N:Nat):Prop:=∀(k:Int)(x y:ByteArray)(A:Option Addr)(n C:Nat)(c:F)(w:World)(gl ga:Nat)(av:Option Addr)(ln Cv:Nat)(L:List Nd)(B0 B:Nat),c.size≤N→L.length+c.size+1≤1000000→Fs w (Mi B0 B) (ς A n C) c→Bz w B0 B gl ga (ς av ln Cv) L→
 Calls Tryz.prog 108 #[ξ #[ι γ k,σ x,σ y,ς A n C],π (some ⟨gl,0,none⟩),π (some ⟨ga,0,none⟩)] w fun e w'=>e=ρ (.tuple #[])∧∃(av':Option Addr)(ln' Cv':Nat),V' w w' B0 B gl ga (ς av ln Cv) (ς av' ln' Cv') (L++(⟨k,x,y,c⟩::nodes c))
theorem fQ(N:Nat)(ih:∀M,M<N→Ym M):Ym N:=by
 intro k x y A n C c w gl ga av ln Cv L B0 B hN hbig hf hl;have Sm:=QA ih;have Rq:=QA hl;have b1:=Qa w (θ #[ι γ k,σ x,σ y,ς A n C] 24);have OV:=QA (hl.later b1);have jr:Hid (V' w (w.alloc (θ #[ι γ k,σ x,σ y,ς A n C] 24)) B0 B gl ga (ς av ln Cv) (ς av ln Cv) L):=(V'.refl hl).later b1;have Rf:=QA (Vc w k x y (ς A n C));have LK:=QA (hf.ZJ b1 hl.hB.2.2.2);have MJ:Hid (w.heap.size≠gl∧some w.heap.size≠(ς av ln Cv).ownBlock):=⟨by have:=hl.box.lt;omega,fun e=>by have:=hl.own.lt e.symm;omega⟩;have IB:Hid (¬some w.heap.size=(ς av ln Cv).ownBlock):=fun e=>by have:=hl.own.lt e.symm;omega
 have Hj:Hid (gl<w.heap.size∧ga<w.heap.size∧B≤w.heap.size):=⟨hl.box.lt,hl.ha,hl.hB.2.2.2⟩;have J':Hid (L.length=ln):=by obtain⟨_,_,e,_,_⟩:=hl.own.slice;injection e with _ e2 _;exact e2.symm
 have Rc:Hid (L.length≤1000000):=by show _≤_;omega
 have mL:ln≤1000000:=by have:=J'.out;omega
 have hbc:=OV.out.box.cell;have Ty:=QA hbig;obtain⟨W0,hW0⟩:=Mem.QD ((w.alloc (θ #[ι γ k,σ x,σ y,ς A n C] 24)));have LY:Hid (W0.heap.size=w.heap.size+1):=by show _=_;rw[←hW0];simp
 rw[hW0]at OV jr Rf LK hbc;clear ih hf hl b1 hbig;go_enter Tryz.func108,Tryz.ntmps108;go_wp2;clear hbc hW0;refine Qbp [0,1,2,3,4] 4 6 7 (fun W W'=>Below W.heap.size W W') (fun W=>Below W0.heap.size W0 W) (fun q r v' W=>Hf W0 W B0 B gl ga (ς av ln Cv) v' L (⟨k,x,y,c⟩:Nd) q r) [Cd.any,Cd.any,Cd.any,⟨fun v W=>∃(b:Nat),v=ς (some ⟨b,0,none⟩) 1 1∧b<W.heap.size∧W.cell? ⟨b,0,none⟩=some (ι γ 0)∧W.cell? ⟨b,1,none⟩=some (σ ⟨#[]⟩)∧W.cell? ⟨b,2,none⟩=some (σ ⟨#[]⟩)∧W.cell? ⟨b,3,none⟩=some (ς none 0 0),fun v W W' hU h=>by obtain⟨b,e,h2,c0,c1,c2,c3⟩:=h;exact⟨b,e,VE h2 hU.size,(hU.cell (p:=⟨b,0,none⟩) h2).trans c0,(hU.cell (p:=⟨b,1,none⟩) h2).trans c1,(hU.cell (p:=⟨b,2,none⟩) h2).trans c2,(hU.cell (p:=⟨b,3,none⟩) h2).trans c3⟩⟩,Cd.any,Cd.any,Cd.any,Cd.any] [(fun v=>v=ς av ln Cv),(fun v=>v=ξ #[ι γ k,σ x,σ y,ς A n C]),(fun v=>v=ι γ (ln:Int)),(fun _=>True),(fun _=>True),(fun _=>True),(fun _=>True),(fun _=>True)] [(fun _ _=>True),(fun _ _=>True),(fun _ _=>True),(fun _ _=>True),(fun _ _=>True),(fun u v=>∀(g n c:Nat),u=ς (some ⟨g,0,none⟩) n c→v=π (some ⟨g,ln*4,none⟩)),(fun _ _=>True),(fun _ _=>True)] χ δ χ χ χ χ δ δ δ δ δ ((QE _ _).drew) (fun _ _ hU hS=>hS.trans (hU.mono hS.size)) (fun _ _ _ _ _ hU hS=>hS.later hU) ?steps ?behind
 case steps =>
  intro xv W a ha;simp only[Qi]at ha;simp only[ZC,ZA,QZ,ZL,Nat.reduceAdd]at ha;subst ha;refine⟨?s0,?s1,?s2,?s3,?s4,?s5,?s6,?s7,trivial⟩;all_goals intro hI hd xF pp qq rr hp0 hp1 hpre hpost hq0 VN hq1 hr1 K hK
  all_goals(try simp only[Act.put,ZC,ZA,QZ]at hK)
  case s0=>obtain rfl:=hpre (.inl χ);obtain⟨JD,he⟩:=hp0 rfl;clear hd hp0 hp1 hpre hpost hq0 VN hq1 hr1 he;refine(if_pos (by rfl)).mpr ?_;have JF:=(OV.out.later JD).box.cell;exact c21
  case s1=>obtain rfl:=hpre (.inl χ);obtain⟨JD,he⟩:=hp0 rfl;clear hd hp0 hp1 hpre hpost hq0 VN hq1 hr1 he;refine(if_pos (by rfl)).mpr ?_;obtain⟨hq0,hq1,hq2,Ns⟩:=(Rf.out.below JD Rf.out.lt).cells;exact c21
  case s2=>have hx0:xv 0=ς av ln Cv:=hd 0 χ;exact c118
  case s3=>exact c30
  case s4=>have hx0:xv 0=ς av ln Cv:=hd 0 χ;obtain rfl:=hpre (.inr rfl);obtain⟨JD,he⟩:=hp0 rfl;have cF:∃(b:Nat),xv 3=ς (some ⟨b,0,none⟩) 1 1∧b<W.heap.size∧W.cell? ⟨b,0,none⟩=some (ι γ 0)∧W.cell? ⟨b,1,none⟩=some (σ ⟨#[]⟩)∧W.cell? ⟨b,2,none⟩=some (σ ⟨#[]⟩)∧W.cell? ⟨b,3,none⟩=some (ς none 0 0):=he 3 χ;clear hd hp0 hp1 hpre hpost hq0 VN hq1 hr1 he;rw[hx0]at hK⊢;refine(if_pos (by rfl)).mpr ?_;obtain⟨b,e3,h2,u0,u1,u2,u3⟩:=cF;have Rq:=OV.out.later JD;rw[e3]at hK⊢;refine Eg _ _ rfl (Mi B0 B) (ς av ln Cv) L b 1 ⟨0,⟨#[]⟩,⟨#[]⟩,.nil⟩ (ς none 0 0) rfl rfl ⟨u0,u1,u2,u3⟩ Rq.own (V6 _ _) (fun b' hb'=>⟨VE hb'.2 Rq.hB.2.2.2,fun e=>by have:=(Rq.d b' e.symm).1;have hb2:b'<B:=hb'.2;omega⟩) Rc.out ?_;exact c69
  case s5 =>
   have hx2:xv 2=ι γ (ln:Int):=hd 2 χ;obtain rfl:=hpost χ;have EA:=hp1 rfl;clear hd hp0 hp1 hpre hpost hq0 VN hq1 hr1;rw[hx2]at hK⊢;refine(if_pos (by rfl)).mpr ?_;obtain⟨g',c',e4⟩:=EA.form J'.out;rw[e4]at hK⊢;have mJ:(ln:Int)<(ln:Int)+1:=ω
   go_simp;exact hK.out (π (some ⟨g',ln*4,none⟩)) _ (fun _ _ _=>⟨QE _ _,trivial⟩) (fun e=>absurd e δ) (fun e=>absurd e δ) (fun e=>absurd e δ) trivial (fun _ g n c e=>by injection e with e1 _ _;injection e1 with e1;injection e1 with e1;rw[e1])
  case s6=>have hx1:xv 1=ξ #[ι γ k,σ x,σ y,ς A n C]:=hd 1 χ;obtain rfl:=hpost χ;obtain rfl:=hq0 (.inr rfl);have EA:=hp1 rfl;clear hd hp0 hp1 hpre hpost hq0 VN hq1 hr1;rw[hx1]at hK⊢;refine(if_pos (by rfl)).mpr ?_;have Y':∀(g n c:Nat),xv 4=ς (some ⟨g,0,none⟩) n c→xv 5=π (some ⟨g,ln*4,none⟩):=xF 5 χ χ;obtain⟨g',c',e4⟩:=EA.form J'.out;have e5:=Y' _ _ _ e4;rw[e4]at EA hK⊢;rw[e5]at hK⊢;obtain⟨⟨kz,xz,yz,sz,z0,z1,z2,z3⟩,y0,y1,y2,y3⟩:=EA.cells J'.out;have hput:=EA.jA (s:=ς A n C) (EA.fr.lo OV.out LK.out);unfold KD at hput;rw[J'.out]at hput;exact c74
  case s7=>obtain rfl:=hpost χ;obtain rfl:=VN (.inr rfl);have EA:=hp1 rfl;clear hd hp0 hp1 hpre hpost hq0 VN hq1 hr1;refine(if_pos (by rfl)).mpr ?_;obtain⟨g',c',e4⟩:=EA.form J'.out;exact c46
 case behind =>
  intro xv W hW hx nI a ha;simp only[Qi]at ha;simp only[ZC,ZA,QZ,ZL,Nat.reduceAdd]at ha;subst ha;obtain⟨g',c',e4⟩:=hW.form J'.out;have hadd:=hW.done OV.out;rw[e4]at hadd⊢
  rename World=>w5
  have VI:=QA hadd;clear hx nI hW hadd e4;have HM:Hid (qC w w5 B0 B gl ga (ς av ln Cv) (ς (some ⟨g',0,none⟩) (ln+1) c') L ⟨k,x,y,c⟩ [(⟨k,x,y,c⟩:Nd)] k x y (ς A n C) c):=by
   refine⟨jr.out.trans VI.out,fun e=>?_,(VI.out.keep Rf.out.lt MJ.out.1 MJ.out.2).trans Rf.out,VI.out.fr.lo OV.out LK.out,rfl⟩;rcases VI.out.nb with h|⟨g,h,hg⟩
   ·rw[h]at e;exact IB.out e
   ·rw[h]at e;have:=Option.some.inj e;have:=LY.out;omega
  obtain⟨p0,p1,p2,p3⟩:=HM.out.box.cells;clear VI LK Rf MJ Rc jr OV;go_wp2
  go_loopg [16] (c.size+1) (fun p ED wr=>∃(kk:Int)(kx ky:ByteArray)(Ak:Option Addr)(kn Ck:Nat)(kc:F)(FW:Option Addr)(PB IP:Nat)(ch:List Nd),kc.size<p∧Hid (qC w wr B0 B gl ga (ς av ln Cv) (ς FW PB IP) L ⟨k,x,y,c⟩ ch kk kx ky (ς Ak kn Ck) kc))
  case atStart=>exact⟨k,x,y,A,n,C,c,some ⟨g',0,none⟩,ln+1,c',_,ω,HM.out⟩
  case round =>
   clear HM;obtain⟨kk,kx,ky,Ak,kn,Ck,kc,FW,PB,IP,ch,hsz,HM⟩:=hrel;obtain⟨p0,p1,p2,p3⟩:=HM.out.box.cells;obtain⟨_,_,e,_,hkC⟩:=HM.out.fs.slice;injection e with q1 q2 q3;have MG:=QA q2;have Q2w:Ck≤9223372036854775807:=ω
   have NU:Hid ((L++ch).length=PB):=by obtain⟨_,_,e,_,_⟩:=HM.out.add.at_.own.slice;injection e with _ e2 _;exact e2.symm
   clear q1 q2 q3 hkC;cases hkc:kc with
   |nil =>
    have hkn:kn=0:=by rw[MG.out,hkc];rfl
    have hch:ch=⟨k,x,y,c⟩::UB c:=by have:=HM.out.eq;rw[hkc]at this;simpa[UB]using this
    subst hkn;have VI:=QA HM.out.add;rw[hch]at VI NU;have hbl:=HM.out.add.at_.box.cell;obtain⟨m,hm⟩:=Mem.QD ((UB c).length);have YO:PB=ln+1+m:=by have:=NU.out;rw[ZU,J'.out,GW,hm]at this;omega
    have hmb:m≤1000000:=by have h1:=Qj c;rw[Y3,ZU,hm]at h1;have:=Ty.out;omega
    have TV:=QA hm;subst YO;have hw2:IntKind.i64.wrap (((ln+1+m:Nat):Int)-2)=((ln+m:Nat):Int)-1:=by rw[IntKind.wrap_i64];omega
    have zt:Hid (∀j,j≤m→∃n',(⟨k,x,y,c⟩::UB c:List Nd)[j]?=some n'∧n'.c=Yw j c):=fun j hj=>Ě j ⟨k,x,y,c⟩ (by show j≤(UB c).length;omega)
    clear hkc hch HM hm MG NU;go_wp2;clear hbl hw2 p0 p1 p2 p3
    go_loopw [5] (fun s5 wq=>∃(j:Nat)(bt:Option Addr)(zK sV:Nat),j≤m∧s5=ι γ (((ln+j:Nat):Int)-1)∧Hid (V' w wq B0 B gl ga (ς av ln Cv) (ς bt zK sV) (L++((⟨k,x,y,c⟩::UB c)++Te (Yw j c))))) (fun s5 _=>(intOf s5-(ln:Int)+1).toNat)
    case atStart=>exact⟨m,FW,ln+1+m,IP,QI _,by rw[show(ln:Int)+1+(m:Int)-2=((ln+m:Nat):Int)-1 by omega],VI.out.list (by rw[←TV.out,ŀ];simp[Te])⟩
    case round =>
     clear VI;obtain⟨j,bt,zK,sV,hj,rfl,VI⟩:=hrel
     rename World=>wq
     have hbl:=VI.out.at_.box.cell;cases j with
     |zero =>
      have hlt':¬(ln:Int)≤((ln+0:Nat):Int)-1:=ω
      have HE:=QA (VI.out.list (L':=L++(⟨k,x,y,c⟩::nodes c)) (by rw[Y3];rfl));go_wp2;first|refine bodyPost_end (results_none rfl _ _ _) rfl ?_|refine bodyPost_ret (results_none rfl _ _ _) rfl ?_
      exact⟨rfl,bt,zK,sV,HE.out⟩
     |succ j =>
      rw[show((ln+(j+1):Nat):Int)-1=((ln+j:Nat):Int)by omega];obtain⟨ij,hij⟩:=Mem.QD (ln+j);obtain⟨k1,x1,y1,c1,r1,hs1,hs2⟩:=ũ j c (by rw[TV.out];omega);obtain⟨n',Ri,Fx⟩:=zt.out j ω;have hnx:(L++((⟨k,x,y,c⟩::UB c)++Te (Yw (j+1) c)))[ln+j]?=some n':=by have hlt:=(List.getElem?_eq_some_iff.1 Ri).1;rw[List.getElem?_append_right (by rw[J'.out];omega),J'.out,show ln+j-ln=j by omega,List.getElem?_append_left hlt];exact Ri
      have hll:ln+j<zK:=by have hlt:=(List.getElem?_eq_some_iff.1 hnx).1;obtain⟨_,_,e,_,_⟩:=VI.out.at_.own.slice;injection e with _ e2 _;rw[e2];exact hlt
      obtain⟨g,s,rfl,hgl,d0,d1,d2,d3,VX⟩:=VI.out.at_.own.at_ hnx;rw[Fx,hs1]at VX;obtain⟨_,_,e,hrC,zO⟩:=VX.slice;have hsh:∃ba oa nr Cr,s=ς (some ⟨ba,oa,none⟩) nr Cr:=by obtain⟨b,off,_,_,_,e,_⟩:=VX;exact⟨b,off,_,_,e⟩
      obtain⟨ba,oa,nr,Cr,rfl⟩:=hsh;injection e with q1 q2 q3;obtain⟨t1,t2,t3,t4,T9⟩:=VX.tail;obtain⟨A3,nq,Cq,hsl,en,eC,W7⟩:=Ju ba oa nr Cr t1 t2;have hg1:=T9 A3 W7;rw[←en,←eC]at hg1
      have HKQ:Hid (∀(W:World)(v':Value)(LL:List Nd),V' w W B0 B gl ga (ς av ln Cv) v' LL→Fs W (Mi B0 B) (ς A3 nq Cq) r1):=fun W v' LL hA=>hg1.keep fun b hb=>by
       have hb':b<B:=hb.2;have h0:=Rq.out.hB;have h1:b<w.heap.size:=ω
       have h2:some b≠(ς av ln Cv).ownBlock:=fun e=>by have:=(Rq.out.d b e.symm).1;omega
       exact(hA.keep h1 ω h2).trans (VI.out.keep h1 ω h2).symm
      have aT:Hid (nq=r1.len):=by show _=_;omega
      have wI:=QA hij;rw[hij]at d3 hll⊢;have mQ:(ln:Int)≤(ij:Int):=ω
      have Q2q:(ij:Int)<(zK:Int):=ω
      have hi0:(0:Int)≤(ij:Int):=ω
      have Q22:ij≤2000000:=by have:=wI.out;omega
      have hjm:=hj;have Q3e:Cq≤9223372036854775807:=ω
      have Q2f:nq≤Cq:=ω
      have hr1:r1.size<c.size:=by have:=Ū j c;rw[hs1]at this;simp only[F.size]at this;omega
      have Q2e:nq≤1000000:=by have:=F.QL r1;have:=Ty.out;have:=aT.out;omega
      have OM:Hid (L++((⟨k,x,y,c⟩::UB c)++Te (Yw (j+1) c))++nodes (r1.drop 0)=L++((⟨k,x,y,c⟩::UB c)++Te (Yw j c))):=by show _=_;rw[hs1,hs2];simp only[Te,F.drop,JZ]
      have XW:Hid ((L++((⟨k,x,y,c⟩::UB c)++Te (Yw j c))).length≤1000000):=by
       show _≤_;have hsub:∀(i:Nat)(f:F),(Te (Yw i f)).length≤(Te f).length:=by
        intro i
        induction i with
        |zero=>intro f;exact QI _
        |succ i ihi =>
         intro f;cases f with
         |nil=>exact QI _
         |cons _ _ _ cc rr=>have:=ihi cc;simp only[Yw,Te,ZU];omega
       have h1:=Qj c;rw[Y3,ZU]at h1;have:=hsub j c;have:=Ty.out;simp only[ZU,GW];omega
      obtain⟨TG,cZ⟩:=Mem.QD (L++((⟨k,x,y,c⟩::UB c:List Nd)++Te (Yw j c)));rw[cZ]at OM XW;have ak:Hid (TG=L++((⟨k,x,y,c⟩::UB c:List Nd)++Te (Yw j c))):=cZ.symm;clear cZ;clear hij hs1 hs2 Ri Fx hnx hll hgl d0 d1 d2 VX hrC zO q1 q2 q3 t1 t2 t3 t4 T9 en eC W7 hg1;go_wp2;clear hbl d3 mQ
      go_loopw [45] (fun tD W=>∃(i:Nat)(pd:Option Addr)(eX sU:Nat)(LL:List Nd),i≤nq∧tD=ι γ (i:Int)∧Hid (V' w W B0 B gl ga (ς av ln Cv) (ς pd eX sU) LL)∧Hid (LL++nodes (r1.drop i)=TG)) (fun tD _=>nq-(intOf tD).toNat)
      case atStart=>exact⟨0,some ⟨g,0,none⟩,zK,sV,_,Nat.zero_le _,rfl,VI.out,OM.out⟩
      case round =>
       clear VI OM;obtain⟨i,pd,eX,sU,LL,hi,rfl,VI,OM⟩:=hrel
       rename World=>W
       by_cases hlt:i<nq
       ·have hlt':(i:Int)<(nq:Int):=ω
        have KZ:(0:Int)≤(i:Int):=ω
        obtain⟨kk,kx,ky,kc,kr,hdr,YZ⟩:=F.drop_cons (n:=i) (f:=r1) (by rw[←aT.out];exact hlt);obtain⟨b2,UW,s2,rfl,hb2,_,VA⟩:=(HKQ.out W _ _ VI.out).at_ hdr;obtain⟨Ak,Ck,rfl,_,_⟩:=VA.kids.slice;obtain⟨kn,hkn⟩:=Mem.QD (kc.len);rw[hkn]at VA;have e0:=VA.c0;have e1:=VA.c1;have e2:=VA.c2;have e3:=VA.c3;have LU:=Ge hdr;have b5:=Qa W (θ #[ι γ kk,σ kx,σ ky,ς Ak kn Ck] 24);have dA:=VI.out.at_.later b5;have hlen:LL.length+kc.size+1≤1000000:=by have h1:=OM.out;have h2:=XW.out;rw[←h1,ZU,Qj,hdr]at h2;simp only[F.size]at h2;omega
        have HC:=QA (Sm.out kc.size ω kk kx ky Ak kn Ck kc _ gl ga pd eX sU LL B0 B (QI _) hlen (VA.kids.ZJ b5 VI.out.at_.hB.2.2.2) dA);have hfn:=dA.fn;obtain⟨z0,z1,z2,z3⟩:=(Vc W kk kx ky (ς Ak kn Ck)).cells;have HA5:=QA (VI.out.later b5);have MC:Hid ((LL++(⟨kk,kx,ky,kc⟩::nodes kc))++nodes (r1.drop (i+1))=TG):=by show _=_;rw[←OM.out,hdr,YZ];simp only[nodes,JZ,List.cons_append]
        clear hdr YZ hb2 VA hkn LU b5 dA hlen VI OM;go_wp2_with fail;refine HC.out.mono ?_;rintro e w6 ⟨rfl,av5,ln5,Cv5,hadd⟩;have HA6:=QA (HA5.out.trans hadd);clear hadd HA5 HC hfn z0 z1 z2 z3 e0 e1 e2 e3;go_wp2
        go_roundw
        case rel=>exact⟨i+1,av5,ln5,Cv5,_,ω,by go_num,HA6.out,MC.out⟩
        case measure=>simp[intOf];omega
       ·have hlt':¬(i:Int)<(nq:Int):=ω
        have HE:Hid (LL=TG):=by show _=_;rw[←OM.out,F.JG _ _ (by rw[←aT.out];omega)];simp[nodes]
        have hwr:IntKind.i64.wrap ((ij:Int)-1)=(ij:Int)-1:=by rw[IntKind.wrap_i64];omega
        clear hlt;go_wp2
        go_roundw
        case rel=>exact⟨j,pd,eX,sU,ω,by rw[wI.out],VI.out.list (by rw[HE.out];exact ak.out)⟩
        case measure=>have:=wI.out;simp[intOf];omega
   |cons k1 x1 y1 c1 r1 =>
    rw[hkc]at HM hsz MG;obtain⟨ba,oa,s1,rfl,xS,_,hat⟩:=HM.out.fs.at_ (i:=0) rfl;obtain⟨A1,C1,rfl,_,_⟩:=hat.kids.slice;obtain⟨n1,Ri⟩:∃m,c1.len=m:=⟨_,rfl⟩;rw[Ri]at hat;have e0:=hat.c0;have e1:=hat.c1;have e2:=hat.c2;have e3:=hat.c3;simp only[Nat.zero_mul,Nat.add_zero]at e0 e1 e2 e3;have hkn:(0:Int)<(kn:Int):=by rw[MG.out];simp only[F.len];omega
    have Q2u:0<kn:=ω
    simp only[F.size]at hsz;obtain⟨y0,y1',y2,y3⟩:=JO HM.out.box;have MJ:Hid (w.heap.size≠gl∧some w.heap.size≠(ς FW PB IP).ownBlock):=⟨by have:=Hj.out.1;omega,HM.out.no⟩;have zy:=X3 (k1:=k1) (x1:=x1) (y1:=y1) (s1:=ς A1 n1 C1) HM.out.box;have IJ:=HM.out.add.Ao (g:=w.heap.size) (v0:=ι γ k1) (v1:=σ x1) (v2':=σ y1) (v3:=ς A1 n1 C1) (QI _) Hj.out.2.2 MJ.out.1 (by have:=Hj.out.2.1;omega) MJ.out.2;have zo:Fs ((((wr.setCell ⟨w.heap.size,0,none⟩ (ι γ k1)).setCell ⟨w.heap.size,1,none⟩ (σ x1)).setCell ⟨w.heap.size,2,none⟩ (σ y1)).setCell ⟨w.heap.size,3,none⟩ (ς A1 n1 C1)) (Mi B0 B) (ς A1 n1 C1) c1:=hat.kids.keep fun b hb=>Vr _ _ _ _ _ _ _ (by have hb':b<B:=hb.2;have:=Hj.out.2.2;omega)
    obtain⟨W9,O1⟩:∃W9,((((wr.setCell ⟨w.heap.size,0,none⟩ (ι γ k1)).setCell ⟨w.heap.size,1,none⟩ (σ x1)).setCell ⟨w.heap.size,2,none⟩ (σ y1)).setCell ⟨w.heap.size,3,none⟩ (ς A1 n1 C1))=W9:=⟨_,rfl⟩;rw[O1]at zy IJ zo;have ER:=QA zy;have HA9:=QA IJ;have jg:=QA IJ.at_;have sL:=QA zo;have jn:=QA HM.out.eq;obtain⟨L2,hL2⟩:=Mem.QD (L++ch);have LH:Hid (L2=L++ch):=hL2.symm;rw[hL2]at NU jg HA9;have NV:=NU;have wE:Hid (L2.length≤1000000):=by show _≤_;have h1:=Qj c;rw[Y3,ZU]at h1;have h2:=congrArg List.length jn.out;simp only[ZU,GW]at h2;have:=Ty.out;rw[LH.out,ZU];omega
    clear HM xS hat Ri hkc zy IJ zo hL2 NU;go_wp2;clear O1 p0 p1 p2 p3 y0 y1' y2 y3 e0 e1 e2 e3;refine Qbp [0,1,2,3,4] 4 6 7 (fun W W'=>Below W.heap.size W W') (fun W=>Below W9.heap.size W9 W) (fun q r v' W=>Hf W9 W B0 B gl ga (ς FW PB IP) v' L2 (⟨k1,x1,y1,c1⟩:Nd) q r) [Cd.any,Cd.any,Cd.any,⟨fun v W=>∃(b:Nat),v=ς (some ⟨b,0,none⟩) 1 1∧b<W.heap.size∧W.cell? ⟨b,0,none⟩=some (ι γ 0)∧W.cell? ⟨b,1,none⟩=some (σ ⟨#[]⟩)∧W.cell? ⟨b,2,none⟩=some (σ ⟨#[]⟩)∧W.cell? ⟨b,3,none⟩=some (ς none 0 0),fun v W W' hU h=>by obtain⟨b,e,h2,c0,c1,c2,c3⟩:=h;exact⟨b,e,VE h2 hU.size,(hU.cell (p:=⟨b,0,none⟩) h2).trans c0,(hU.cell (p:=⟨b,1,none⟩) h2).trans c1,(hU.cell (p:=⟨b,2,none⟩) h2).trans c2,(hU.cell (p:=⟨b,3,none⟩) h2).trans c3⟩⟩,Cd.any,Cd.any,Cd.any,Cd.any] [(fun v=>v=ς FW PB IP),(fun v=>v=ξ #[ι γ k1,σ x1,σ y1,ς A1 n1 C1]),(fun v=>v=ι γ (PB:Int)),(fun _=>True),(fun _=>True),(fun _=>True),(fun _=>True),(fun _=>True)] [(fun _ _=>True),(fun _ _=>True),(fun _ _=>True),(fun _ _=>True),(fun _ _=>True),(fun u v=>∀(g n c:Nat),u=ς (some ⟨g,0,none⟩) n c→v=π (some ⟨g,PB*4,none⟩)),(fun _ _=>True),(fun _ _=>True)] χ δ χ χ χ χ δ δ δ δ δ ((QE _ _).drew) (fun _ _ hU hS=>hS.trans (hU.mono hS.size)) (fun _ _ _ _ _ hU hS=>hS.later hU) ?steps ?behind
    case steps =>
     intro xv W a ha;simp only[Qi]at ha;simp only[ZC,ZA,QZ,ZL,Nat.reduceAdd]at ha;subst ha;refine⟨?s0,?s1,?s2,?s3,?s4,?s5,?s6,?s7,trivial⟩;all_goals intro hI hd xF pp qq rr hp0 hp1 hpre hpost hq0 VN hq1 hr1 K hK
     all_goals(try simp only[Act.put,ZC,ZA,QZ]at hK)
     case s0=>obtain rfl:=hpre (.inl χ);obtain⟨JD,he⟩:=hp0 rfl;clear hd hp0 hp1 hpre hpost hq0 VN hq1 hr1 he;refine(if_pos (by rfl)).mpr ?_;have JF:=(jg.out.later JD).box.cell;exact c21
     case s1=>obtain rfl:=hpre (.inl χ);obtain⟨JD,he⟩:=hp0 rfl;clear hd hp0 hp1 hpre hpost hq0 VN hq1 hr1 he;refine(if_pos (by rfl)).mpr ?_;obtain⟨hq0,hq1,hq2,Ns⟩:=(ER.out.below JD ER.out.lt).cells;exact c21
     case s2=>have hx0:xv 0=ς FW PB IP:=hd 0 χ;exact c118
     case s3=>exact c30
     case s4=>have hx0:xv 0=ς FW PB IP:=hd 0 χ;obtain rfl:=hpre (.inr rfl);obtain⟨JD,he⟩:=hp0 rfl;have cF:∃(b:Nat),xv 3=ς (some ⟨b,0,none⟩) 1 1∧b<W.heap.size∧W.cell? ⟨b,0,none⟩=some (ι γ 0)∧W.cell? ⟨b,1,none⟩=some (σ ⟨#[]⟩)∧W.cell? ⟨b,2,none⟩=some (σ ⟨#[]⟩)∧W.cell? ⟨b,3,none⟩=some (ς none 0 0):=he 3 χ;clear hd hp0 hp1 hpre hpost hq0 VN hq1 hr1 he;rw[hx0]at hK⊢;refine(if_pos (by rfl)).mpr ?_;obtain⟨b,e3,h2,u0,u1,u2,u3⟩:=cF;have Rq:=jg.out.later JD;rw[e3]at hK⊢;refine Eg _ _ rfl (Mi B0 B) (ς FW PB IP) L2 b 1 ⟨0,⟨#[]⟩,⟨#[]⟩,.nil⟩ (ς none 0 0) rfl rfl ⟨u0,u1,u2,u3⟩ Rq.own (V6 _ _) (fun b' hb'=>⟨VE hb'.2 Rq.hB.2.2.2,fun e=>by have:=(Rq.d b' e.symm).1;have hb2:b'<B:=hb'.2;omega⟩) wE.out ?_;exact c69
     case s5 =>
      have hx2:xv 2=ι γ (PB:Int):=hd 2 χ;obtain rfl:=hpost χ;have EA:=hp1 rfl;clear hd hp0 hp1 hpre hpost hq0 VN hq1 hr1;rw[hx2]at hK⊢;refine(if_pos (by rfl)).mpr ?_;obtain⟨g',c',e4⟩:=EA.form NV.out;rw[e4]at hK⊢;have mJ:(PB:Int)<(PB:Int)+1:=ω
      go_simp;exact hK.out (π (some ⟨g',PB*4,none⟩)) _ (fun _ _ _=>⟨QE _ _,trivial⟩) (fun e=>absurd e δ) (fun e=>absurd e δ) (fun e=>absurd e δ) trivial (fun _ g n c e=>by injection e with e1 _ _;injection e1 with e1;injection e1 with e1;rw[e1])
     case s6=>have hx1:xv 1=ξ #[ι γ k1,σ x1,σ y1,ς A1 n1 C1]:=hd 1 χ;obtain rfl:=hpost χ;obtain rfl:=hq0 (.inr rfl);have EA:=hp1 rfl;clear hd hp0 hp1 hpre hpost hq0 VN hq1 hr1;rw[hx1]at hK⊢;refine(if_pos (by rfl)).mpr ?_;have Y':∀(g n c:Nat),xv 4=ς (some ⟨g,0,none⟩) n c→xv 5=π (some ⟨g,PB*4,none⟩):=xF 5 χ χ;obtain⟨g',c',e4⟩:=EA.form NV.out;have e5:=Y' _ _ _ e4;rw[e4]at EA hK⊢;rw[e5]at hK⊢;obtain⟨⟨kz,xz,yz,sz,z0,z1,z2,z3⟩,y0,y1,y2,y3⟩:=EA.cells NV.out;have hput:=EA.jA (s:=ς A1 n1 C1) (EA.fr.lo jg.out sL.out);unfold KD at hput;rw[NV.out]at hput;exact c74
     case s7=>obtain rfl:=hpost χ;obtain rfl:=VN (.inr rfl);have EA:=hp1 rfl;clear hd hp0 hp1 hpre hpost hq0 VN hq1 hr1;refine(if_pos (by rfl)).mpr ?_;obtain⟨g',c',e4⟩:=EA.form NV.out;exact c46
    case behind =>
     intro xv W hW hx nI a ha;simp only[Qi]at ha;simp only[ZC,ZA,QZ,ZL,Nat.reduceAdd]at ha;subst ha;obtain⟨g',c',e4⟩:=hW.form NV.out;have hadd:=hW.done jg.out;rw[e4]at hadd⊢
     rename World=>w6
     have VI:=QA hadd;clear hx nI hW hadd e4;have SB:Hid (qC w w6 B0 B gl ga (ς av ln Cv) (ς (some ⟨g',0,none⟩) (PB+1) c') L ⟨k,x,y,c⟩ (ch++[(⟨k1,x1,y1,c1⟩:Nd)]) k1 x1 y1 (ς A1 n1 C1) c1):=by
      refine⟨(HA9.out.trans VI.out).list (by rw[LH.out,JZ]),fun e=>?_,(VI.out.keep ER.out.lt MJ.out.1 MJ.out.2).trans ER.out,VI.out.fr.lo jg.out sL.out,?_⟩
      ·rcases VI.out.nb with h|⟨g,h,hg⟩
       ·rw[h]at e;exact MJ.out.2 e
       ·rw[h]at e;have:=Option.some.inj e;have:=ER.out.lt;omega
      ·have:=jn.out;simpa[UB]using this
     go_wp2
     go_roundg (c1.size+1)
     case measure=>omega
     case rel=>exact⟨k1,x1,y1,A1,n1,C1,c1,some ⟨g',0,none⟩,PB+1,c',ch++[(⟨k1,x1,y1,c1⟩:Nd)],ω,SB.out⟩
