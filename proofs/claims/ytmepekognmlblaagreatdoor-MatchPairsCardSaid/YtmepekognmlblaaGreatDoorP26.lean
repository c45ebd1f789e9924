import Derived.Test.YtmepekognmlblaaGreatDoorP25
set_option maxHeartbeats 16000000
set_option maxRecDepth 100000
set_option linter.unusedVariables false
open Go.Proofs.Tryz Go.ChangeShapes Go.WideShapes Go.ChangeAt Go.RowKit
open Go.Lib renaming hid→QA
open Go.RowKit.Below renaming refl→QE
open _root_.List renaming setIfInBounds_toArray→ZC,set_cons_succ→ZA,set_cons_zero→QZ,getElem?_eq_getElem→QN,mem_of_getElem?→JK,getElem?_map→VP
open _root_.Nat renaming zero_add→ZL,le_trans→QW,zero_le→ZR
open Go.Value renaming string→σ,int→ι,slice→ς,pointer→π,agg→ξ
open Go.IntKind renaming i64→γ
open Go.Obj renaming cells→θ
open Go.Ending renaming returned→ρ
namespace Go.Proofs.YtmepekognmlblaaGreatDoor
namespace Shape
open Mem Tree
def R5(N g:Nat)(vN vP vS vK:Value)(cN:List Value)(nP nS nK:Nat)(cP cS:List Value)(us vs:List Value)(ks:List (List Nat)):List QC :=
 Qb 24 4 vN N cN::Kf 35 g [vN,vP,vS,vK]::Qb 3 1 vP nP cP::Qb 3 1 vS nS cS::Qb 32 1 vK nK us::VW vs ks
def ñ(B0:Nat)(w:World)(T:F)(e:Ending)(w':World):Prop:=Below w.heap.size w w'∧∃vN vP vS vK vs nps,e=ρ (ξ #[vN,vP,vS,vK])∧
 QH w' w.heap.size (D3 vN vP vS vK nps (Jn (-1) 0 T) (Zt T) vs vs (Z7 0 T))∧nps.map (·.1)=nodes T∧(∀p∈nps,Fs w' (Lo B0) p.2 p.1.c)∧vs.length=T.size
theorem D6{w:World}{base:Nat}{e:TypeId}{size n:Nat}{v:Value}{xs:List Value}(h:w.ownsRow base e size v n xs):w.ownsRow 0 e size v n xs:=by
 refine⟨h.1,?_⟩;rcases h.2 with h' |⟨g,cap,cur,a,b,r⟩
 ·exact .inl h'
 ·exact .inr ⟨g,cap,cur,a,ZR _,r⟩
theorem ð{w:World}{base:Nat}{e:TypeId}{size n:Nat}{v:Value}{xs:List Value}(h:w.ownsRow base e size v n xs):∀k,v.ownBlock=some k→base≤k:=fun k hk=>(h.lt k hk).1
theorem Qx0{w:World}{base base':Nat}{e:TypeId}{size n:Nat}{v:Value}{xs:List Value}(h:w.ownsRow base e size v n xs)(hb:base'≤base):w.ownsRow base' e size v n xs:=by
 refine⟨h.1,?_⟩;rcases h.2 with h' |⟨g,cap,cur,a,b,r⟩
 ·exact .inl h'
 ·exact .inr ⟨g,cap,cur,a,QW hb b,r⟩
theorem Qyy{w:World}{B:Nat}{e:TypeId}{size n:Nat}{v:Value}{xs:List Value}(h:w.ownsRow B e size v n xs)(hB:B≤w.heap.size):QH w B [Qb e size v n xs] :=
 ⟨fun t ht=>by rw[List.mem_singleton.1 ht];exact D6 h,fun t ht k hk=>by rw[List.mem_singleton.1 ht]at hk;exact ð h k hk,List.pairwise_singleton _ _,hB⟩
theorem bI(w:World)(o1 o2:Obj):((w.alloc o1).alloc o2).heap[w.heap.size+1]?=some o2:=by
 have:=heap_alloc_new (w.alloc o1) o2;rwa[show(w.alloc o1).heap.size=w.heap.size+1 by simp]at this
theorem Qtg{w:World}{B N:Nat}{vN:Value}{cN:List Value}(h:QH w B [Qb 24 4 vN N cN]) :
 QH (w.alloc (θ #[vN,ς none 0 0,ς none 0 0,ς none 0 0] 35)) B (R5 N w.heap.size vN (ς none 0 0) (ς none 0 0) (ς none 0 0) cN 0 0 0 [] [] [] [] []):=by
 have h1:=h.box (e:=35) (sz:=4) #[vN,ς none 0 0,ς none 0 0,ς none 0 0] 1 (by unfold maxLen;omega) rfl;exact((h1.VQ (e:=3) (sz:=1)).VQ (e:=3) (sz:=1)).VQ (e:=32) (sz:=1)
theorem Q1s{w:World}{B N g:Nat}{vN vP vS vK:Value}{cN:List Value}{nP nS nK:Nat}{cP cS:List Value}{us vs:List Value}{ks:List (List Nat)}(h:QH w B (R5 N g vN vP vS vK cN nP nS nK cP cS us vs ks))(hl:vs.length=ks.length) :
 QH w B (R5 N g vN vP vS vK cN nP nS nK cP cS us (vs++[ς none 0 0]) (ks++[[]])):=by
 have h1:=h.VQ (e:=3) (sz:=1);have e:R5 N g vN vP vS vK cN nP nS nK cP cS us (vs++[ς none 0 0]) (ks++[[]])=R5 N g vN vP vS vK cN nP nS nK cP cS us vs ks++[Qb 3 1 (ς none 0 0) 0 []]:=by unfold R5;rw[←D4 vs ks (ς none 0 0) [] hl];rfl
 rw[e];exact h1
theorem Q1r{N g n':Nat}{vN vP vS vK v:Value}{cN:List Value}{nP nS nK:Nat}{cP cS c':List Value}{us vs:List Value}{ks:List (List Nat)}{i:Nat}{l':List Nat}(hl:vs.length=ks.length)(hn:n'=l'.length)(hc:c'=l'.map nv) :
 ((R5 N g vN vP vS vK cN nP nS nK cP cS us vs ks).set (i+5) (Qb 3 1 v n' c')).set 4 (Qb 32 1 vK nK (us.set i v))=R5 N g vN vP vS vK cN nP nS nK cP cS (us.set i v) (vs.set i v) (ks.set i l'):=by
 subst hn;subst hc;unfold R5;rw[←Uy vs ks i v l' hl];rfl
theorem Q1u{N g:Nat}{vN vP vS vK:Value}{cN:List Value}{nP nS nK:Nat}{cP cS us vs:List Value}{ks:List (List Nat)}{i:Nat}{t t':QC}(h:(VW vs ks)[i]?=some t):((R5 N g vN vP vS vK cN nP nS nK cP cS us vs ks).set (i+5) t')[i+5]?=some t':=by
 have hi:=(List.getElem?_eq_some_iff.1 h).1;show((VW vs ks).set i t')[i]?=some t';rw[List.getElem?_set_self hi]
theorem Bt{α:Type}(n:Nat)(x:α):List.replicate n x++[x]=List.replicate (n+1) x:=List.replicate_succ'.symm
theorem Qts{T:F}{i:Nat}{n:Nd}(h:(nodes T)[i]?=some n):(Zt T).take i++[((n.c.size+1:Nat):Int)]=(Zt T).take (i+1):=by
 rw[List.take_add_one,Xe,VP,h];rfl
theorem Qzh{T:F}{i:Nat}{n:Nd}(h:(nodes T)[i]?=some n):(Zt T)[i]?=some ((n.c.size+1:Nat):Int):=by
 rw[Xe,VP,h];rfl
theorem C9{nps:List (Nd×Value)}{L:List Nd}(h:nps.map (·.1)=L){i:Nat}{n:Nd}(hn:L[i]?=some n):∃s,nps[i]?=some (n,s):=by
 rw[←h,VP]at hn;cases hp:nps[i]? with
 |none=>rw[hp]at hn;cases hn
 |some p=>rw[hp]at hn;injection hn with hn;exact⟨p.2,by rw[←hn]⟩
theorem Em:∀(f:F)(i:Nat)(n:Nd),(nodes f)[i]? = some n→n.c.size+1≤f.size:=fun f i n h=>by
 have:=(Jv f i n h).1;omega
theorem Qru{w w1 w':World}{B0 B N g:Nat}(h0:B0≤w.heap.size){vN vP vS vK:Value}{cN us:List Value}{nps:List (Nd×Value)}{T:F}(h1:Below w.heap.size w w1)(h2:Below w.heap.size w1 w')(hB:w.heap.size≤B)
 (hF:QH w' B (R5 N g vN vP vS vK cN N N N ((Jn (-1) 0 T).map iv) ((Zt T).map iv) us us (Z7 0 T))) (hn:nps.map (·.1)=nodes T) (hf:∀p∈nps,Fs w1 (Lo B0) p.2 p.1.c) (hT:T.size=N) (hu:us.length=N) (hc:nps.flatMap VC=cN) :
 ñ B0 w T (ρ (ξ #[vN,vP,vS,vK])) w':=by
 refine⟨h1.trans h2,vN,vP,vS,vK,us,nps,rfl,?_,hn,fun p hp=>(hf p hp).below h2 h0,by rw[hu,hT]⟩;have hl:nps.length=N:=by have:=congrArg List.length hn;rwa[List.length_map,Qj,hT]at this
 unfold D3 FN;rw[hl,Y1,E6,hT,hu,hc];exact(hF.sub (List.Sublist.cons_cons _ (List.Sublist.cons _ (List.Sublist.refl _)))).less hB
theorem Qrw(k:Int)(x y:ByteArray)(A:Option Addr)(n C:Nat)(c:F)(m:Nat)(w:World)(B0:Nat)(WY:B0≤w.heap.size)(hf:Fs w (Lo B0) (ς A n C) c)(hm:c.size+1≤m)(hm2:m≤100000) :
 Calls prog 14 #[ξ #[ι γ k,σ x,σ y,ς A n C],ι γ (m:Int)] w (ñ B0 w (one k x y c)):=by
 obtain⟨i0,hi0,hz0,hz1,hz2⟩:=info_parts Zq;obtain⟨i1,hi1,hy0,hy1,hy2⟩:=info_parts Gs;have b1:=Qa w (θ #[ι γ k,σ x,σ y,ς A n C] 24);obtain⟨z,hz⟩:∃z:Array Value,z=#[ς none 0 0,ς none 0 0,ς none 0 0,ς none 0 0]:=⟨_,rfl⟩;have b2:=Qa (w.alloc (θ #[ι γ k,σ x,σ y,ς A n C] 24)) (θ #[ς none 0 0,ς none 0 0,ς none 0 0,ς none 0 0] 35);have b3:=b1.trans (b2.mono b1.size);have hN:(⟨k,x,y,c⟩::nodes c:List Nd).take m=nodes (one k x y c):=by rw[Gm];exact List.take_of_length_le (by rw[List.length_cons,Qj];exact hm)
 have HC:=D8 c.size k x y A n C c m B0 _ (Nat.le_refl _) (hf.below b3 WY) (QW WY b3.size) ω hm2;have P9:=QA WY;rw[hN]at HC;have HC:=QA HC;have Pw:=QA b3;have H3:Hid ((one k x y c).size≤m):=by show _≤_;rw[Q4];exact hm
 have SD:=QA hm2;have GF:Hid (1≤(one k x y c).size):=by show _≤_;rw[Q4];omega
 have QP:=QA hf;have F9:Hid (∀ps,Q1w (Jn (-1) 0 (one k x y c)) (Z7 0 (one k x y c)) (one k x y c).size 0 ps→ps=Jn (-1) 0 (one k x y c)):=fun ps h=>h.all
 generalize one k x y c=T at *;obtain⟨B,Ð⟩:=Mem.QD (w.heap.size+1+1);have JP:=QA Ð;clear hf hm hm2 hN b1 b2 b3 hz z WY;go_enter func14,ntmps14;go_wp2_with fail;refine HC.out.mono ?_;rintro e w1 ⟨⟨v1,rfl,nps,r7,hown,VX⟩,hb⟩;obtain⟨aN,ZO,rfl,LF,M7⟩:=Q0 hown;have Z':=VO Pw hb;have aU:=QA r7;have P8:=QA VX;rw[Qj]at hown LF⊢;have hown2:w1.ownsRow B 24 4 (ς aN T.size ZO) T.size (nps.flatMap VC):=Qx0 hown (by have:=JP.out;simp;omega);have S5:B≤w1.heap.size:=by have h1:=hb.size;have h2:=JP.out;simp at h1;omega
 have HRC:Hid (w1.heap[w.heap.size+1]?=some (θ #[ς none 0 0,ς none 0 0,ς none 0 0,ς none 0 0] 35 (0,0))):=(hb.block _ ψ).trans (bI _ _ _);have XY:=QA (Qtg (Qyy hown2 S5));have XC:=QA (Qa w1 (θ #[ς aN T.size ZO,ς none 0 0,ς none 0 0,ς none 0 0] 35));obtain⟨N,M8⟩:=Mem.QD (T.size);rw[M8]at XY XC GF H3 LF⊢;have HN:=QA M8;obtain⟨cN,P5⟩:=Mem.QD (nps.flatMap VC);rw[P5]at XY;have wV:=QA P5;clear hown hown2 hb r7 VX P5 M8 HC M7 Ð;obtain⟨g,hg⟩:=Mem.QD (w1.heap.size);have HG:=QA hg;obtain⟨gN,rfl⟩:∃gN,aN=some ⟨gN,0,none⟩:=by obtain⟨g',c',h',_,_⟩:=XY.out.sliceAt (i:=0) rfl GF.out;injection h' with h' _ _;exact⟨g',h'⟩
 rw[hg]at XY;go_wp2;obtain⟨w2,hw2⟩:∃w2,w1.alloc (θ #[ς (some ⟨gN,0,none⟩) N ZO,ς none 0 0,ς none 0 0,ς none 0 0] 35)=w2:=⟨_,rfl⟩;rw[hw2]at XY XC⊢;replace XC:Hid (Below B w1 w2):=XC.out.mono S5;clear hg hw2 HG;have hN5:N≤100000:=by have:=H3.out;have:=SD.out;omega
 go_loopw [6] (fun s6 wr=>∃(i:Nat)(vP vS vK:Value)(cP cS us:List Value)(ks:List (List Nat)),i≤N∧s6=ι γ (i:Int)∧Hid (cP=(List.replicate i (-1)).map iv)∧Hid (cS=((Zt T).take i).map iv)∧Hid (us=List.replicate i (ς none 0 0))∧Hid (ks=List.replicate i [])∧Hid (QH wr B (R5 N g (ς (some ⟨gN,0,none⟩) N ZO) (vP) (vS) (vK) cN (i) (i) (i) (cP) (cS) (us) (us) (ks)))∧Hid (Below B w1 wr)) (fun s _=>N-(intOf s).toNat)
 case atStart=>exact⟨0,_,_,_,[],[],[],[],ZR _,rfl,rfl,rfl,rfl,rfl,XY.out,XC.out⟩
 case round =>
  obtain⟨i,vP,vS,vK,cP,cS,us,ks,hi,rfl,N9,N8,S6,S7,HF,HB⟩:=hrel;obtain⟨⟨q0,q1,q2,q3⟩,z0,z1,z2,z3⟩:=Zr HF.out (j:=1) rfl;by_cases hlt:i<N
  ·have hlt':(i:Int)<(N:Int):=ω
   have KZ:(0:Int)≤(i:Int):=ω
   obtain⟨⟨nk,nx,ny,nc⟩,hnd⟩:∃nd,(nodes T)[i]?=some nd:=⟨_,QN (by rw[Qj,HN.out];exact hlt)⟩;obtain⟨s,hs⟩:=C9 aU.out hnd;have Ra:Fs w1 (Lo B0) s nc:=P8.out _ (JK hs);obtain⟨As,Cs,rfl,_,_⟩:=Ra.slice;have hnz:=Em T i _ hnd;obtain⟨ln,YO⟩:=Mem.QD (nc.len);have OO:Hid (Fs w1 (Lo B0) (ς As ln Cs) nc):=by rw[←YO];exact Ra
   have vR:=QA (Qts hnd);have XW:=QA hlt
   have XO:Hid (∀W,Below B w1 W→Calls prog 16 #[ξ #[ι γ nk,σ nx,σ ny,ς As ln Cs],ι γ (m:Int)] W fun e w'=>e = ρ (ι γ ((nc.size+1:Nat):Int))∧Below W.heap.size W w'):=fun W hW=>by
    have:=Qbr nk nx ny As ln Cs nc m W ((OO.out.below hW (by have:=JP.out;have:=P9.out;omega)).up (QW P9.out (QW Z'.out.size hW.size))) (by have:=GF.out;have:=H3.out;omega) SD.out;rwa[show min (nc.size+1) m=nc.size+1 by have:=H3.out;have:=HN.out;simp only at hnz;omega]at this
   rw[YO]at hs;have rZ:=QA hs;generalize nc.size+1=sz at *;clear hnd Ra hnz YO hs z0 z1 z2 z3;go_wp2;clear q0 q1 q2 q3;refine Z3 (AG wr B (fun jj=>([some (π (some ⟨g,2,none⟩)),some (vS),some (π (some ⟨g,0,none⟩)),some (ς (some ⟨gN,0,none⟩) N ZO),some (ι γ (i:Int)),some (π (some ⟨gN,i*4,none⟩)),some (ξ #[ι γ nk,σ nx,σ ny,ς As ln Cs]),some (ι γ (m:Int)),some (ι γ (sz:Int)),none,none,some (π (some ⟨g,2,none⟩)),none]:List (Option Value)).getD jj none) 9 10 12 (R5 N g (ς (some ⟨gN,0,none⟩) N ZO) (vP) (vS) (vK) cN (i) (i) (i) (cP) (cS) (us) (us) (ks)) ([ι γ (sz:Int)]) (fun v=>(R5 N g (ς (some ⟨gN,0,none⟩) N ZO) (vP) (vS) (vK) cN (i) (i) (i) (cP) (cS) (us) (us) (ks)).set 3 (Qb 3 1 v (i+1) (cS++[iv (sz:Int)]))) (fun v=>R5 N g (ς (some ⟨gN,0,none⟩) N ZO) (vP) (v) (vK) cN (i) (i+1) (i) (cP) (cS++[iv (sz:Int)]) (us) (us) (ks))) χ δ χ (fun _=>AG.start HF.out) ?steps ?done
   case steps =>
    intro L xv W hI hcl a ha;have VF:B≤W.heap.size:=QW (show B≤wr.heap.size from HF.out.B) hI.QF.size;simp only[Qi]at ha;simp only[ZC,ZA,QZ,ZL,Nat.reduceAdd]at ha;subst ha;refine⟨?s0,?s1,?s2,?s3,?s4,?s5,?s6,?s7,?s8,?s9,?JQ,?GA,?YU,trivial⟩;all_goals intro hL hd K hK
    all_goals(try simp only[Act.put,ZC,ZA,QZ]at hK)
    case s0|s2|s4|s7|GA=>clear hd;exact c20
    case s1=>have hx0:=hI.kc 0 _ rfl (hd 0 χ);have hF:=hI.f0 (Qh (i:=1) (r:=10) hcl hL χ);clear hd;obtain⟨⟨q0,q1,q2,q3⟩,z0,z1,z2,z3⟩:=Zr hF (j:=1) rfl;rw[hx0]at hK⊢;exact c20
    case s3=>have hx2:=hI.kc 2 _ rfl (hd 2 χ);have hF:=hI.f0 (Qh (i:=9) (r:=10) hcl (Qh (i:=8) (r:=9) hcl (Qh (i:=6) (r:=8) hcl (Qh (i:=5) (r:=6) hcl (Qh (i:=3) (r:=5) hcl hL χ) χ) χ) χ) χ);clear hd;obtain⟨⟨q0,q1,q2,q3⟩,z0,z1,z2,z3⟩:=Zr hF (j:=1) rfl;rw[hx2]at hK⊢;exact c20
    case s5=>have hx3:=hI.kc 3 _ rfl (hd 3 χ);have JJ:=hI.kc 4 _ rfl (hd 4 χ);clear hd;rw[hx3]at hK⊢;rw[JJ]at hK⊢;exact c20
    case s6=>have JB:=hI.kc 5 _ rfl (hd 5 χ);have hF:=hI.f0 (Qh (i:=9) (r:=10) hcl (Qh (i:=8) (r:=9) hcl (Qh (i:=6) (r:=8) hcl hL χ) χ) χ);clear hd;obtain⟨y0,y1,y2,y3⟩:=yJ (j:=0) (nps:=nps) hF (by rw[wV.out];rfl) rZ.out;rw[JB]at hK⊢;exact c20
    case s8=>have JR:=hI.kc 6 _ rfl (hd 6 χ);have YX:=hI.kc 7 _ rfl (hd 7 χ);have hF:=hI.f0 (Qh (i:=9) (r:=10) hcl (Qh (i:=8) (r:=9) hcl hL χ) χ);clear hd;rw[JR]at hK⊢;rw[YX]at hK⊢;refine(if_pos (by rfl)).mpr ?_;go_simp;go_at_call 16;refine c₁ (XO.out W (HB.out.trans hI.QF)) fun W' hb=>?_;exact hK.out _ _ (hI.quiet VF hb rfl δ δ δ)
    case s9=>have UX:=hI.kc 8 _ rfl (hd 8 χ);clear hd;rw[UX]at hK⊢;refine(if_pos (by rfl)).mpr ?_;have UJ:=Qa W (θ #[ι γ (sz:Int)] 3);have hcn:=Vk W [ι γ (sz:Int)] 3;exact c155
    case JQ=>have hx1:=hI.kc 1 _ rfl (hd 1 χ);have hF:=hI.f0 hL;obtain⟨gb,cb,Fj,hcb⟩:=hI.fb (hd 9 χ) hL;obtain⟨v',W',hr,hf,hb,_⟩:=hF.VT (i:=3) rfl _ underlying32 hi0 hz0 hz1 hz2 rfl δ δ rfl hcb (by intro u hu;rw[List.mem_singleton.1 hu];rfl) (by have:=H3.out;have:=SD.out;omega);rw[hx1]at hK⊢;exact c151
    case YU=>have JE:=hI.kc 11 _ rfl (hd 11 χ);have hA:=hd 10 χ;have hF:=hI.f1 hA hL;clear hd;obtain⟨⟨q0,q1,q2,q3⟩,z0,z1,z2,z3⟩:=Zr hF (j:=1) rfl;obtain⟨aS,cS,Ch,_,_⟩:=hF.slice (i:=3) rfl;have Ha:=hF.store (i:=1) rfl (2) (xv 10);rw[show W.setCell ⟨g,2,none⟩ (xv 10)=W.setCell ⟨g,2,none⟩ (ς aS _ cS)from by rw[Ch]]at Ha;exact c153
   case done =>
    intro L xv W hI hall a ha;have hF:=hI.f2 (hall 12 δ);have hBl:=hI.QF;have hx0:=hI.kc 0 _ rfl (hall 0 δ);have hx1:=hI.kc 1 _ rfl (hall 1 δ);have hx2:=hI.kc 2 _ rfl (hall 2 δ);have hx3:=hI.kc 3 _ rfl (hall 3 δ);have JJ:=hI.kc 4 _ rfl (hall 4 δ);have JB:=hI.kc 5 _ rfl (hall 5 δ);have JR:=hI.kc 6 _ rfl (hall 6 δ);have YX:=hI.kc 7 _ rfl (hall 7 δ);have UX:=hI.kc 8 _ rfl (hall 8 δ);have JE:=hI.kc 11 _ rfl (hall 11 δ);simp only[Qi]at ha;simp only[ZC,ZA,QZ,ZL,Nat.reduceAdd]at ha;subst ha;clear hI hall;obtain⟨v5,AU⟩:=Mem.QD (xv 10);rw[AU]at hF;try rw[AU]
    have F7:Hid (QH W B (R5 N g (ς (some ⟨gN,0,none⟩) N ZO) (vP) (v5) (vK) cN (i) (i+1) (i) (cP) (cS++[iv (sz:Int)]) (us) (us) (ks))):=hF;have LO:=QA (HB.out.trans hBl);clear hx0 hx1 hx2 hx3 JJ JB JR YX UX JE hF hBl AU HF HB XO OO rZ;obtain⟨⟨q0,q1,q2,q3⟩,z0,z1,z2,z3⟩:=Zr F7.out (j:=1) rfl;go_wp2_with (at_builtin;refine K7 (i:=2) F7.out rfl rfl _ _ rfl underlying32 hi0 hz0 hz1 hz2 rfl δ rfl _ 1 ψ rfl rfl (by have:=H3.out;have:=SD.out;omega) ?_);intro v6 w6 Sy VH;obtain⟨⟨eV,q1',q2',q3'⟩,tj,td,sZ,sY⟩:=Zr Sy (j:=1) rfl;obtain⟨a6,c6,rfl,_,_⟩:=Sy.slice (i:=2) rfl;have mq:=Sy.store (i:=1) rfl 1 (ς a6 (i+1) c6);have Bf:Hid (QH (w6.setCell ⟨g,1,none⟩ (ς a6 (i+1) c6)) B (R5 N g (ς (some ⟨gN,0,none⟩) N ZO) (ς a6 (i+1) c6) (v5) (vK) cN (i+1) (i+1) (i) (cP++[iv (-1)]) (cS++[iv (sz:Int)]) (us) (us) (ks))):=mq.1;have GG:=QA ((LO.out.trans VH).trans mq.2);clear q0 q1 q2 q3 z0 z1 z2 z3 eV q2' q3' tj sZ sY Sy VH mq F7 LO;obtain⟨⟨q0,q1,q2,q3⟩,z0,z1,z2,z3⟩:=Zr Bf.out (j:=1) rfl;go_wp2_with (at_builtin;refine K7 (i:=4) Bf.out rfl rfl _ _ rfl underlying33 hi1 hy0 hy1 hy2 rfl δ rfl _ 1 ψ rfl rfl (by have:=H3.out;have:=SD.out;omega) ?_);intro v7 w7 Om VL;obtain⟨⟨p0,p1,p2,p3⟩,y0,y1,y2,y3⟩:=Zr Om (j:=1) rfl;obtain⟨a7,c7,rfl,_,_⟩:=Om.slice (i:=4) rfl;have mo:=Om.store (i:=1) rfl 3 (ς a7 (i+1) c7);have R3:QH (w7.setCell ⟨g,3,none⟩ (ς a7 (i+1) c7)) B (R5 N g (ς (some ⟨gN,0,none⟩) N ZO) (ς a6 (i+1) c6) (v5) (ς a7 (i+1) c7) cN (i+1) (i+1) (i+1) (cP++[iv (-1)]) (cS++[iv (sz:Int)]) (us++[ς none 0 0]) (us) (ks)):=mo.1;have hlen:us.length=ks.length:=by rw[S6.out,S7.out];simp
    have u9:=Q1s R3 hlen;have E1:Hid (cP++[iv (-1)]=(List.replicate (i+1) (-1)).map iv):=by show _=_;rw[←Bt i (-1:Int),List.map_append,N9.out];rfl
    have E2:Hid (cS++[iv (sz:Int)]=((Zt T).take (i+1)).map iv):=by show _=_;rw[←vR.out,List.map_append,N8.out];rfl
    have E3:Hid (us++[ς none 0 0]=List.replicate (i+1) (ς none 0 0)):=by show _=_;rw[S6.out,Bt]
    have E4:Hid (ks++[[]]=List.replicate (i+1) []):=by show _=_;rw[S7.out,Bt]
    have BI:=QA u9;have Hm:=QA ((GG.out.trans VL).trans mo.2);clear q0 q1 q2 q3 z0 z1 z2 z3 q1' td p0 p1 p2 y0 y1 y2 Om VL mo R3 u9 hlen Bf GG vR N9 N8 S6 S7;go_wp2
    go_roundw
    case rel=>exact⟨i+1,_,_,_,_,_,_,_,(by have:=XW.out;omega),by go_num,E1,E2,E3,E4,BI.out,Hm.out⟩
    case measure=>have:=XW.out;simp[intOf];omega
  ·obtain rfl:N=i:=ω
   obtain⟨gP,EN,rfl,_,_⟩:=HF.out.sliceAt (i:=2) rfl GF.out;obtain⟨gS,G',rfl,_,_⟩:=HF.out.sliceAt (i:=3) rfl GF.out;obtain⟨gK,ZB,rfl,_,_⟩:=HF.out.sliceAt (i:=4) rfl GF.out;have BL:Hid (cS=(Zt T).map iv):=by show _=_;rw[N8.out,List.take_of_length_le (by rw[E6,HN.out];exact Nat.le_refl _)]
   have Bd:Hid (ks=Xt (Z7 0 T) 0 0):=by show _=_;rw[S7.out,Qiq,Vh,HN.out]
   have L5:Hid (Q1w (Jn (-1) 0 T) (Z7 0 T) 0 0 (List.replicate N (-1))):=by have:=Q1w.start (Jn (-1) 0 T) (Z7 0 T);rwa[Y1,HN.out]at this
   have rR:Hid (us.length=N):=by show _=_;rw[S6.out,List.length_replicate]
   clear N8 S7 S6 hlt;go_wp2;clear q0 q1 q2 q3 z0 z1 z2 z3
   go_loopw [7] (fun s7 wr=>∃(i:Nat)(ps:List Int)(us cp:List Value)(kk:List (List Nat)),i≤N∧s7=ι γ (i:Int)∧Hid (Q1w (Jn (-1) 0 T) (Z7 0 T) i 0 ps)∧Hid (us.length=N)∧Hid (cp=ps.map iv)∧Hid (kk=Xt (Z7 0 T) i 0)∧Hid (QH wr B (R5 N g (ς (some ⟨gN,0,none⟩) N ZO) (ς (some ⟨gP,0,none⟩) N EN) (ς (some ⟨gS,0,none⟩) N G') (ς (some ⟨gK,0,none⟩) N ZB) cN (N) (N) (N) (cp) (cS) (us) (us) (kk)))∧Hid (Below B w1 wr)) (fun s _=>N-(intOf s).toNat)
   case atStart=>exact⟨0,_,us,cP,ks,ZR _,rfl,L5.out,rR.out,N9.out,Bd.out,HF.out,HB.out⟩
   case round =>
    clear HF HB L5 rR N9 Bd;obtain⟨i,ps,us,cp,kk,hi,rfl,L5,rR,Ac,KA,HF,HB⟩:=hrel;obtain⟨⟨q0,q1,q2,q3⟩,z0,z1,z2,z3⟩:=Zr HF.out (j:=1) rfl;by_cases hlt:i<N
    ·have hlt':(i:Int)<(N:Int):=ω
     have KZ:(0:Int)≤(i:Int):=ω
     have XW:=QA hlt;obtain⟨⟨nk,nx,ny,nc⟩,hnd⟩:∃nd,(nodes T)[i]?=some nd:=⟨_,QN (by rw[Qj,HN.out];exact hlt)⟩;have ME:=QA hnd;have OW:Hid ((Z7 0 T)[i]?=some (places (i+1) nc)):=by have:=Ux T 0 i _ hnd;rwa[ZL]at this
     obtain⟨s,hs⟩:=C9 aU.out hnd;have Ra:Fs w1 (Lo B0) s nc:=P8.out _ (JK hs);obtain⟨As,Cs,rfl,_,_⟩:=Ra.slice;obtain⟨ln,YO⟩:=Mem.QD (nc.len);rw[YO]at hs;have rZ:=QA hs;have J':=QA YO;have Rc:Hid ((places (i+1) nc).length=ln):=by show _=_;rw[Jc];exact YO
     have mM:ln≤100000:=by have h1:=Em T i _ hnd;have h2:=F.QL nc;have h3:=HN.out;simp only at h1;omega
     clear hnd Ra YO hs z0 z1 z2 z3;go_wp2;clear q0 q1 q2 q3
     go_loopw [8,9] (fun s8 s9 wr=>∃(j kp:Nat)(ps:List Int)(us cp:List Value)(kk:List (List Nat)),j≤ln∧kp≤1000000∧s8=ι γ (kp:Int)∧s9=ι γ (j:Int)∧Hid (fN (i+1) nc j kp)∧Hid (Q1w (Jn (-1) 0 T) (Z7 0 T) i j ps)∧Hid (us.length=N)∧Hid (cp=ps.map iv)∧Hid (kk=Xt (Z7 0 T) i j)∧Hid (QH wr B (R5 N g (ς (some ⟨gN,0,none⟩) N ZO) (ς (some ⟨gP,0,none⟩) N EN) (ς (some ⟨gS,0,none⟩) N G') (ς (some ⟨gK,0,none⟩) N ZB) cN (N) (N) (N) (cp) (cS) (us) (us) (kk)))∧Hid (Below B w1 wr)) (fun _ s _=>ln-(intOf s).toNat)
     case atStart=>exact⟨0,i+1,ps,us,cp,kk,ZR _,ω,by go_num,rfl,Qlg _ _,L5.out,rR.out,Ac.out,KA.out,HF.out,HB.out⟩
     case round =>
      clear HF HB L5 rR Ac KA;obtain⟨j,kp,ps,us,cp,kk,hj,Q3l,rfl,rfl,HPO,L5,rR,Ac,KA,HF,HB⟩:=hrel;obtain⟨⟨q0,q1,q2,q3⟩,z0,z1,z2,z3⟩:=Zr HF.out (j:=1) rfl;obtain⟨y0,y1,y2,y3⟩:=yJ (j:=0) (nps:=nps) HF.out (by rw[wV.out];rfl) rZ.out;by_cases hjl:j<ln
      ·have Mf:(0:Int)≤(j:Int):=ω
       have Df:(j:Int)<(ln:Int):=ω
       have MH:=QA hjl;obtain⟨kk',kx',ky',M4,kr',hdr,YZ⟩:=F.drop_cons (n:=j) (f:=nc) (by rw[J'.out];exact hjl);obtain⟨H4,R6,P4,H9⟩:=Qpo ME.out HPO.out hdr;rw[HN.out]at H9;have hsub:=(Jv T kp _ P4).1;rw[HN.out]at hsub;have Wf:=(fg T (-1) 0 i kp _ OW.out (JK H4)).1;rw[Nat.sub_zero,ZL]at Wf;have F3:=QA (L5.out.step OW.out H4 Wf);have T7:=QA R6;have T6:=QA (Qmy OW.out H4);have Hh:=QA (ń (j:=j) OW.out);have HZK:Hid (cS[kp]?=some (ι γ ((M4.size+1:Nat):Int))):=by show _=_;rw[BL.out,VP,Qzh P4];rfl
       obtain⟨o,ho⟩:∃o,ps[kp]?=some o:=⟨_,QN (by rw[L5.out.len,Y1,HN.out];exact H9)⟩;have R7:cp[kp]?=some (ι γ o):=by rw[Ac.out,VP,ho];rfl
       have hPk:=HF.out.cell (i:=2) rfl R7;have zPk:=HF.out.JO (i:=2) rfl kp;obtain⟨lj,YI⟩:=Mem.QD ((places (i+1) nc).take j);rw[YI]at Hh T6;have dG:kp+(M4.size+1)≤1000000:=by simp only at hsub;omega
       have Q3n:(kp:Int)<(N:Int):=ω
       have ZW:(0:Int)≤(kp:Int):=ω
       obtain⟨sz,hsz⟩:=Mem.QD (M4.size+1);rw[hsz]at HZK dG T7;have hs1:=HF.out.store (i:=2) rfl kp (ι γ (i:Int));have R9:Hid (cp.set kp (ι γ (i:Int))=(ps.set kp (i:Int)).map iv):=by show _=_;rw[Ac.out,List.map_set]
       obtain⟨N4,R8⟩:=Mem.QD (cp.set kp (ι γ (i:Int)));have H5:Hid (QH (wr.setCell ⟨gP,kp,none⟩ (ι γ (i:Int))) B (R5 N g (ς (some ⟨gN,0,none⟩) N ZO) (ς (some ⟨gP,0,none⟩) N EN) (ς (some ⟨gS,0,none⟩) N G') (ς (some ⟨gK,0,none⟩) N ZB) cN (N) (N) (N) (cp.set kp (ι γ (i:Int))) (cS) (us) (us) (kk))):=hs1.1;rw[R8]at R9 H5;have N3:=QA (HB.out.trans hs1.2);obtain⟨u,hu⟩:∃u,us[i]?=some u:=⟨_,QN (by rw[rR.out];exact XW.out)⟩;have rS:=QA hu;have ji:Hid (kk[i]?=some lj):=by show _=_;rw[KA.out];exact Hh.out
       have NW:Hid (lj.length≤100000):=by show _≤_;rw[←YI,List.length_take,Rc.out];omega
       have MG:Hid (kk.length=N):=by show _=_;rw[KA.out,Qet,Vh,HN.out]
       clear hdr YZ H4 R6 P4 H9 hsub Wf ho R7 hs1 R8 YI hu hjl hsz;go_wp2;refine Z3 (AG (wr.setCell ⟨gP,kp,none⟩ (ι γ (i:Int))) B (fun jj=>([some (π (some ⟨g,3,none⟩)),some (ς (some ⟨gK,0,none⟩) N ZB),some (ι γ (i:Int)),some (π (some ⟨g,3,none⟩)),some (ς (some ⟨gK,0,none⟩) N ZB),some (ι γ (i:Int)),some (π (some ⟨gK,i,none⟩)),some (u),some (ι γ (kp:Int)),none,none,some (π (some ⟨gK,i,none⟩)),none]:List (Option Value)).getD jj none) 9 10 12 (R5 N g (ς (some ⟨gN,0,none⟩) N ZO) (ς (some ⟨gP,0,none⟩) N EN) (ς (some ⟨gS,0,none⟩) N G') (ς (some ⟨gK,0,none⟩) N ZB) cN (N) (N) (N) (N4) (cS) (us) (us) (kk)) ([ι γ (kp:Int)]) (fun v=>(R5 N g (ς (some ⟨gN,0,none⟩) N ZO) (ς (some ⟨gP,0,none⟩) N EN) (ς (some ⟨gS,0,none⟩) N G') (ς (some ⟨gK,0,none⟩) N ZB) cN (N) (N) (N) (N4) (cS) (us) (us) (kk)).set (i+5) (Qb 3 1 v (lj.length+1) (lj.map nv++[ι γ (kp:Int)]))) (fun v=>((R5 N g (ς (some ⟨gN,0,none⟩) N ZO) (ς (some ⟨gP,0,none⟩) N EN) (ς (some ⟨gS,0,none⟩) N G') (ς (some ⟨gK,0,none⟩) N ZB) cN (N) (N) (N) (N4) (cS) (us) (us) (kk)).set (i+5) (Qb 3 1 v (lj.length+1) (lj.map nv++[ι γ (kp:Int)]))).set 4 (Qb 32 1 (ς (some ⟨gK,0,none⟩) N ZB) N (us.set i v)))) χ δ χ (fun _=>AG.start H5.out) ?steps ?done
       case steps =>
        intro L xv W hI hcl a ha;have VF:B≤W.heap.size:=QW (show B≤(wr.setCell ⟨gP,kp,none⟩ (ι γ (i:Int))).heap.size from H5.out.B) hI.QF.size;simp only[Qi]at ha;simp only[ZC,ZA,QZ,ZL,Nat.reduceAdd]at ha;subst ha;refine⟨?s0,?s1,?s2,?s3,?s4,?s5,?s6,?s7,?s8,?s9,?JQ,?GA,?YU,trivial⟩;all_goals intro hL hd K hK
        all_goals(try simp only[Act.put,ZC,ZA,QZ]at hK)
        case s0|s2|s3|s5|s8=>clear hd;exact c20
        case s1 =>
         have hx0:=hI.kc 0 _ rfl (hd 0 χ);have Q3o:W.cell? ⟨g,3,none⟩=some (ς (some ⟨gK,0,none⟩) N ZB):=by
          cases hA:L 10 with
          |false=>have hF:=hI.f0 hA;exact(Zr hF (j:=1) rfl).1.2.2.2
          |true=>have hF:=hI.f1 hA (Qh (i:=11) (r:=12) hcl (Qh (i:=1) (r:=11) hcl hL χ) χ);exact(Zr hF (j:=1) rfl).1.2.2.2
         clear hd;rw[hx0]at hK⊢;exact c20
        case s4=>have hx3:=hI.kc 3 _ rfl (hd 3 χ);have hF:=hI.f0 (Qh (i:=7) (r:=10) hcl (Qh (i:=6) (r:=7) hcl (Qh (i:=4) (r:=6) hcl hL χ) χ) χ);clear hd;obtain⟨⟨q0,q1,q2,q3⟩,z0,z1,z2,z3⟩:=Zr hF (j:=1) rfl;rw[hx3]at hK⊢;exact c20
        case s6=>have JJ:=hI.kc 4 _ rfl (hd 4 χ);have JB:=hI.kc 5 _ rfl (hd 5 χ);clear hd;rw[JJ]at hK⊢;rw[JB]at hK⊢;exact c20
        case s7=>have JR:=hI.kc 6 _ rfl (hd 6 χ);have hF:=hI.f0 (Qh (i:=7) (r:=10) hcl hL χ);clear hd;have zT:=hF.cell (i:=4) rfl rS.out;rw[JR]at hK⊢;exact c20
        case s9=>have UX:=hI.kc 8 _ rfl (hd 8 χ);clear hd;rw[UX]at hK⊢;refine(if_pos (by rfl)).mpr ?_;have UJ:=Qa W (θ #[ι γ (kp:Int)] 3);have hcn:=Vk W [ι γ (kp:Int)] 3;exact c155
        case JQ=>have YX:=hI.kc 7 _ rfl (hd 7 χ);have hF:=hI.f0 hL;obtain⟨gb,cb,Fj,hcb⟩:=hI.fb (hd 9 χ) hL;obtain⟨v',W',hr,hf,hb,_⟩:=hF.VT (i:=i+5) (Xg rS.out ji.out) _ underlying32 hi0 hz0 hz1 hz2 rfl δ δ rfl hcb (by intro u hu;rw[List.mem_singleton.1 hu];rfl) (by have:=NW.out;omega);rw[YX]at hK⊢;exact c151
        case GA=>have hx1:=hI.kc 1 _ rfl (hd 1 χ);have hx2:=hI.kc 2 _ rfl (hd 2 χ);clear hd;rw[hx1]at hK⊢;rw[hx2]at hK⊢;exact c20
        case YU=>have JE:=hI.kc 11 _ rfl (hd 11 χ);have hA:=hd 10 χ;have hF:=hI.f1 hA hL;clear hd;have zT:=hF.cell (i:=4) rfl rS.out;have I1:=hF.JO (i:=4) rfl i;obtain⟨aS,cS,Ch,_,_⟩:=hF.slice (i:=i+5) (show((R5 N g (ς (some ⟨gN,0,none⟩) N ZO) (ς (some ⟨gP,0,none⟩) N EN) (ς (some ⟨gS,0,none⟩) N G') (ς (some ⟨gK,0,none⟩) N ZB) cN (N) (N) (N) (N4) (cS) (us) (us) (kk)).set (i+5) (Qb 3 1 (xv 10) (lj.length+1) (lj.map nv++[ι γ (kp:Int)])))[i+5]?=some (Qb 3 1 (xv 10) (lj.length+1) (lj.map nv++[ι γ (kp:Int)]))from Q1u (Xg rS.out ji.out));have Ha:=hF.store (i:=4) rfl (i) (xv 10);rw[show W.setCell ⟨gK,i,none⟩ (xv 10)=W.setCell ⟨gK,i,none⟩ (ς aS _ cS)from by rw[Ch]]at Ha;exact c153
       case done =>
        intro L xv W hI hall a ha;have hF:=hI.f2 (hall 12 δ);have hBl:=hI.QF;have hx0:=hI.kc 0 _ rfl (hall 0 δ);have hx1:=hI.kc 1 _ rfl (hall 1 δ);have hx2:=hI.kc 2 _ rfl (hall 2 δ);have hx3:=hI.kc 3 _ rfl (hall 3 δ);have JJ:=hI.kc 4 _ rfl (hall 4 δ);have JB:=hI.kc 5 _ rfl (hall 5 δ);have JR:=hI.kc 6 _ rfl (hall 6 δ);have YX:=hI.kc 7 _ rfl (hall 7 δ);have UX:=hI.kc 8 _ rfl (hall 8 δ);have JE:=hI.kc 11 _ rfl (hall 11 δ);simp only[Qi]at ha;simp only[ZC,ZA,QZ,ZL,Nat.reduceAdd]at ha;subst ha;clear hI hall;obtain⟨v5,AU⟩:=Mem.QD (xv 10);rw[AU]at hF;try rw[AU]
        rw[Q1r (l':=lj++[kp]) (by rw[rR.out,MG.out]) ψ ψ,KA.out,T6.out]at hF;have sL:=QA hF;have ER:=QA (N3.out.trans hBl);have T4:Hid ((us.set i v5).length=N):=by show _=_;rw[List.length_set];exact rR.out
        clear hx0 hx1 hx2 hx3 JJ JB JR YX UX JE hF hBl AU HF HB H5 N3 rS ji;obtain⟨us9,Rl⟩:=Mem.QD (us.set i v5);rw[Rl]at sL T4;clear Rl;obtain⟨⟨q0,q1,q2,q3⟩,z0,z1,z2,z3⟩:=Zr sL.out (j:=1) rfl;have hzk:=sL.out.cell (i:=3) rfl HZK.out;go_wp2
        go_roundw
        case rel=>exact⟨j+1,kp+sz,_,_,_,_,(by have:=MH.out;omega),dG,by go_num,by go_num,T7.out,F3.out,T4.out,R9.out,rfl,sL.out,ER.out⟩
        case measure=>have:=MH.out;simp[intOf];omega
      ·obtain rfl:ln=j:=ω
       have Df:¬(ln:Int)<(ln:Int):=ω
       have vX:Hid (Q1w (Jn (-1) 0 T) (Z7 0 T) (i+1) 0 ps):=by have h:=L5.out;rw[←Rc.out]at h;exact h.next OW.out
       have F4:Hid (kk=Xt (Z7 0 T) (i+1) 0):=by show _=_;have h:=Qm1 OW.out;rw[Rc.out]at h;rw[KA.out,h]
       clear hjl;go_wp2
       go_roundw
       case rel=>exact⟨i+1,_,_,_,_,(by have:=XW.out;omega),by go_num,vX.out,rR.out,Ac.out,F4.out,HF.out,HB.out⟩
       case measure=>have:=XW.out;simp[intOf];omega
    ·obtain rfl:N=i:=ω
     have hlt':¬(N:Int)<(N:Int):=ω
     have hps:=F9.out ps (by have:=L5.out;rwa[←HN.out]at this);have hkk:kk=Z7 0 T:=by rw[KA.out];exact Qqb _ _ (by rw[Vh,HN.out];exact Nat.le_refl _)
     have FJ:cp=(Jn (-1) 0 T).map iv:=by rw[Ac.out,hps]
     have hF:=HF.out;rw[FJ,BL.out,hkk]at hF;have HF:=QA hF;have hrc:wr.heap[w.heap.size+1]?=some (θ #[ς none 0 0,ς none 0 0,ς none 0 0,ς none 0 0] 35 (0,0)):=(HB.out.block _ (by have:=JP.out;omega)).trans HRC.out;obtain⟨y0,y1,y2,y3⟩:wr.cell? ⟨w.heap.size+1,0,none⟩=some (ς none 0 0)∧wr.cell? ⟨w.heap.size+1,1,none⟩=some (ς none 0 0)∧wr.cell? ⟨w.heap.size+1,2,none⟩=some (ς none 0 0)∧wr.cell? ⟨w.heap.size+1,3,none⟩=some (ς none 0 0):=by refine⟨?_,?_,?_,?_⟩ <;> simp[World.cell?,hrc]
     obtain⟨f0,f1,f2,f3⟩:wr.frozen? ⟨w.heap.size+1,0,none⟩=false∧wr.frozen? ⟨w.heap.size+1,1,none⟩=false∧wr.frozen? ⟨w.heap.size+1,2,none⟩=false∧wr.frozen? ⟨w.heap.size+1,3,none⟩=false:=by refine⟨?_,?_,?_,?_⟩ <;> simp[World.frozen?,hrc]
     have XB:=QA (E7 (E7 (E7 (E7 hrc 0 (ς (some ⟨gN,0,none⟩) N ZO)) 1 (ς (some ⟨gP,0,none⟩) N EN)) 2 (ς (some ⟨gS,0,none⟩) N G')) 3 (ς (some ⟨gK,0,none⟩) N ZB));have Mg:w.heap.size+1<B:=by have:=JP.out;omega
     have JM:=QA ((((HF.out.Pz Mg 0 (ς (some ⟨gN,0,none⟩) N ZO)).Pz Mg 1 (ς (some ⟨gP,0,none⟩) N EN)).Pz Mg 2 (ς (some ⟨gS,0,none⟩) N G')).Pz Mg 3 (ς (some ⟨gK,0,none⟩) N ZB));have UQ:=QA (((((HB.out.mono (show w.heap.size≤B by omega)).setCell (p:=⟨w.heap.size+1,0,none⟩) (Nat.le_succ _) (ς (some ⟨gN,0,none⟩) N ZO)).setCell (p:=⟨w.heap.size+1,1,none⟩) (Nat.le_succ _) (ς (some ⟨gP,0,none⟩) N EN)).setCell (p:=⟨w.heap.size+1,2,none⟩) (Nat.le_succ _) (ς (some ⟨gS,0,none⟩) N G')).setCell (p:=⟨w.heap.size+1,3,none⟩) (Nat.le_succ _) (ς (some ⟨gK,0,none⟩) N ZB));have HWB:=QA (show w.heap.size≤B by omega);clear hF hps hkk FJ hrc L5 Ac KA BL hlt Mg z0 z1 z2 z3 HB HF;go_wp2;refine bodyPost_ret (results_cell_row rfl _ _ (w.heap.size+1) 35 _ (0,0) _ rfl XB.out underlying35 rfl χ) rfl ?_;exact Qru P9.out Z'.out UQ.out HWB.out JM.out aU.out P8.out HN.out rR.out wV.out
