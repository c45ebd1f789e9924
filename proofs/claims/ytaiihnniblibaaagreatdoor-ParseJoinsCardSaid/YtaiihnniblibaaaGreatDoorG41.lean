import Derived.Test.YtaiihnniblibaaaGreatDoorG36
set_option maxHeartbeats 8000000
set_option maxRecDepth 100000
set_option linter.unusedVariables false
open Go.Proofs.Tryz Go.ChangeShapes Go.WideShapes Go.ChangeAt Go.RowKit
open Go.Lib renaming hid→QA
open _root_.Nat renaming le_refl→QH
open Go.Value renaming string→σ,int→ι,slice→ς,bool→τ,agg→ξ
open Go.IntKind renaming i64→κ
open Go.Obj renaming cells→θ
open Go.Ending renaming returned→ρ
namespace Go.Proofs.YtaiihnniblibaaaGreatDoor
namespace Lex
open KL ZR
theorem Qgr(A:Option Addr)(n cap:Nat)(xs:List Int)(w:World)(B:Nat)(h:RB w B A xs)(hB:B≤w.heap.size)(hn:xs.length=n)(hcap:n≤cap)(ZF:cap≤maxLen)(hsm:n≤100000) :
  Calls prog 20 #[ς A n cap] w (Yd xs w):=by
 have DL:bad xs≤n:=by rw[←hn];exact qy h.Ha
 have GM:=Qix A n cap xs w B h hn hB hcap ZF (by omega);have hE:K6 xs=if bad xs<n then 3 else if left xs=[]then 0 else 4:=by rw[←hn];rfl
 have hN:RJ xs=if bad xs<n then bad xs else if left xs=[]then 0 else n-(left xs).length:=by rw[←hn];rfl
 have SS:Uz xs=if K6 xs=0 then ZQ xs else[]:=rfl
 have hnn:¬(16777216:Int)<(n:Int):=by omega
 by_cases hb:bad xs<n
 ·rw[if_pos hb]at hE hN
  have HS:Hid (Calls prog 30 #[ς A n cap] w fun e w'=>e = ρ (.tuple #[ς none 0 0,ι κ (bad xs:Int)])∧Below w.heap.size w w'):=GM.mono fun e w' hp=>by
   rcases hp.2 with⟨_,he⟩|⟨he,_⟩
   ·exact⟨he,hp.1⟩
   ·omega
  have HF:Hid (∀w',Below w.heap.size w w'→Yd xs w (ρ (.tuple #[ς none 0 0,ι κ (bad xs:Int),ι κ 3])) w'):=fun w' hw=>gg (by rw[hN]) (by rw[hE]) (by rw[SS,hE];exact World.ownsRow_nil _ _ _ _) hw
  clear hE hN SS GM DL h hn;generalize bad xs=p at *;have hpb:(p:Int)<(n:Int):=by omega
  go_enter func20,ntmps20;go_wp2_with (go_at_call 30;refine c₁ HS.out fun w' hbl=>?_)
  go_ret3
  exact HF.out _ hbl
 ·rw[if_neg hb]at hE hN
  have HS:Hid (Calls prog 30 #[ς A n cap] w fun e w'=>∃v,e = ρ (.tuple #[v,ι κ (n:Int)])∧Below w.heap.size w w'):=GM.mono fun e w' hp=>by
   rcases hp.2 with⟨he,_⟩|⟨_,v,he,_⟩
   ·omega
   ·exact⟨v,by rw[he,show bad xs=n from by omega],hp.1⟩
  have CR:Hid (∀v w',left xs=[]→Ul w' w.heap.size v (ZQ xs)→Below w.heap.size w w'→Yd xs w (ρ (.tuple #[v,ι κ 0,ι κ 0])) w'):=fun v w' hl h1 h2=>by
   rw[if_pos hl]at hE hN;exact gg (by rw[hN];rfl) hE.symm (by rw[SS,hE];exact h1) h2
  have zR:Hid (∀(k:Nat) w',left xs≠[]∧n-(left xs).length=k→Below w.heap.size w w'→Yd xs w (ρ (.tuple #[ς none 0 0,ι κ (k:Int),ι κ 4])) w'):=fun k w' hl h2=>by
   rw[if_neg hl.1]at hE hN;exact gg (by rw[hN,hl.2]) hE.symm (by rw[SS,hE];exact World.ownsRow_nil _ _ _ _) h2
  have KE:=AK h.Ha
  have CJ:Hid (∀k,k≤n→(strOfNums xs).extract k n=strOfNums (xs.drop k)):=fun k hk=>by
   rw[rO xs h.Ha,List.take_of_length_le (by rw[List.length_drop];omega)]
  have JX:Hid (∀k m,(strOfNums xs).extract k (k+m)=strOfNums ((xs.drop k).take m)):=fun k m=>by
   rw[rO xs h.Ha,show k+m-k=m from by omega]
  have Wk:Hid (∀k,k<n→blk (xs.getD k 0)=false→xs.getD k 0≠10→∀K,(if(piece (xs.drop k)).2=0 then 0 else(piece (xs.drop k)).1)=K→∀W,Calls prog 32 #[σ ((strOfNums xs).extract k n)] W fun e w'=>e = ρ (.tuple #[ι κ K,ι κ ((piece (xs.drop k)).2:Int)])∧Below W.heap.size W w'):=fun k hk h7 h8 K hK W=>by
   have hg:(xs.drop k).getD 0 0=xs.getD k 0:=by rw[getD_drop];rfl
   rw[CJ.out k (by omega)];exact wS (xs.drop k) (h.Ha.drop k) (by rw[List.length_drop];omega) (by rw[List.length_drop];omega) (by rw[hg];exact h7) (by rw[hg];exact h8) K hK W
  have CV:Hid (∀W,Below w.heap.size w W→(convert 30 9 (ς A n cap)).run prog W = .ok (σ (strOfNums xs)) W):=fun W hW=>by
   have:=zk (P:=prog) W 30 9 5 underlying30 underlying5 underlying9 (h.below hW hB) cap;rw[hn]at this;exact this
  have Sb:=QA h.Ha;have hsz:(strOfNums xs).size=n:=by rw[strOfNums_size,hn]
  have dU:=QA (Qqk hn);have YY:Hid (∀c W,Calls prog 31 #[ι .u8 c] W fun e w'=>e=ρ (τ (blk c))∧W=w'):=tY;rw[hn]at KE;generalize strOfNums xs=s at *;clear hE hN SS GM DL h hn hb ZF;go_enter func20,ntmps20;go_wp2_with fail;refine HS.out.mono ?_;rintro e w1 ⟨v0,rfl,hb1⟩;have cv:=CV.out w1 hb1;have QJ:=QA hb1;clear hb1 HS CV;go_wp2
  go_loopw [8,9,10,11,12,13,14] (fun v8 v9 v10 v11 _ _ _ wr=>∃(k ln:Nat)(P:List (Tok×Nat))(m:Nat)(a8 a9:Option Addr)(c8 c9:Nat),k≤n∧m≤k∧ln≤k∧v11=ι κ k∧v10=ι κ ln∧v8=ς a8 m c8∧v9=ς a9 m c9∧Hid (P.length=m)∧Hid (RN xs n k P ln)∧Hid (FI wr w.heap.size (ς a8 m c8) (ς a9 m c9) P)∧Hid (Below w.heap.size w wr)) (fun _ _ _ v11 _ _ _ _=>n-(intOf v11).toNat)
  case atStart=>exact⟨0,0,[],0,none,none,0,0,by omega,by omega,by omega,rfl,rfl,rfl,rfl,rfl,dU.out,⟨World.ownsRow_nil _ _ _ _,World.ownsRow_nil _ _ _ _⟩,QJ.out⟩
  case round =>
   obtain⟨k,ln,P,m,a8,a9,c8,c9,hk,hmk,fS,rfl,rfl,rfl,rfl,hpl,hmid,hfi,ZU⟩:=hrel;by_cases hlk:k<n
   ·have GQ:=KE.out k hlk;have fT:(k:Int)<(n:Int):=by omega
    have MI:Hid (xs.getD k 0=10→RN xs n (k+1) P (ln+1)):=fun e=>Q1j hmid.out hlk e
    have CN:Hid (blk (xs.getD k 0)=true→RN xs n (k+1) P ln):=fun e=>aw hmid.out hlk e
    have FX:Hid (blk (xs.getD k 0)=false→xs.getD k 0≠10→∀(K:Int)(mm:Nat),piece (xs.drop k)=(K,mm)→mm≠0→k+mm≤n∧RN xs n (k+mm) (P++[(⟨K,(xs.drop k).take mm,k,begins P ln⟩,ln)]) ln):=fun e1 e2 K mm a b=>ax hmid.out hlk e1 e2 a b
    have zM:=QA (Wk.out k hlk);by_cases h10:xs.getD k 0=10
    ·have HM:=QA (MI.out h10);rw[h10]at GQ;clear MI CN FX zM h10;go_wp2
     go_roundw
     case rel=>exact⟨k+1,ln+1,P,m,a8,a9,c8,c9,by omega,by omega,by omega,by go_num,by go_num,rfl,rfl,hpl,HM,hfi,ZU⟩
     case measure=>simp[intOf];omega
    have n10:=Qy h10;cases hblk:blk (xs.getD k 0)with
    |true =>
     have HM:=QA (CN.out hblk);have hcc:=YY.out (xs.getD k 0);rw[hblk]at hcc;have HC:=QA hcc;clear MI CN FX zM h10 hblk hcc;generalize xs.getD k 0=c at *;go_wp2_with (first|(go_at_call 31;refine(HC.out _).mono ?_;rintro e w' ⟨rfl,rfl⟩))
     go_roundw
     case rel=>exact⟨k+1,ln,P,m,a8,a9,c8,c9,by omega,by omega,by omega,by go_num,rfl,rfl,rfl,hpl,HM,hfi,ZU⟩
     case measure=>simp[intOf];omega
    |false =>
     have hcc:=YY.out (xs.getD k 0);rw[hblk]at hcc;have HC:=QA hcc;have HM:=QA (FX.out hblk h10);have HO:=QA (zM.out hblk h10);have HST:=QA (Qu2 hmid.out hlk);clear MI CN FX zM h10 hblk hcc;generalize xs.getD k 0=c at *;obtain⟨K0,mm,hp⟩:∃K0 mm,piece (xs.drop k)=(K0,mm):=⟨_,_,rfl⟩;rw[hp]at HO HST;by_cases h0:mm=0
     ·subst h0;have FT:=QA (HO.out 0 rfl);have yj:=QA (HST.out rfl);clear HM hp HO HST;go_wp2_with (first|(go_at_call 31;refine(HC.out _).mono ?_;rintro e w' ⟨rfl,rfl⟩)|(go_at_call 32;((with_reducible refine(FT.out _).mono ?_));rintro e w2 ⟨rfl,hb2⟩))
      go_ret3
      exact zR.out k _ yj.out (ZU.out.trans (hb2.mono ZU.out.size))
     ·obtain⟨uB,hmx⟩:=HM.out K0 mm hp h0;have dS:=QA hmx;have FT:=QA (HO.out K0 (if_neg h0));have hx2:=JX.out k mm;have nz:((mm:Int)==0)=false:=Qy (by omega);have fZ:(k:Int)+(mm:Int)≤(n:Int):=by omega
      have hmp:0<mm:=by omega
      clear HM HO hp hmx HST;obtain⟨fb,KF⟩:=Mem.ZB (begins P ln);rw[KF]at dS;generalize(xs.drop k).take mm=tx at *;have hlt:(P.map (·.1)).length=m:=by rw[List.length_map,hpl.out]
      have WK:(P.map fun x=>(x.2:Int)).length=m:=by rw[List.length_map,hpl.out]
      have yB:=QA hlt;have Tf:=QA WK
      have hsl:∀W:World,(Instr.slice 9 (σ s) (some (ι κ (k:Int))) (some (ι κ ((k:Int)+(mm:Int)))) none).run prog W = .ok (σ (strOfNums tx)) W:=fun W=>by
       rw[run_slice_string (P:=prog) W 9 s κ κ (k:Int) ((k:Int)+(mm:Int)) underlying9 (by omega) (by omega) (by omega),show((k:Int)+(mm:Int)).toNat=k+mm from by omega,show(k:Int).toNat=k from by omega,hx2]
      clear hx2;have SR:∀t:Tok,(P.map (·.1)++[t]).length=P.length+1:=fun t=>by simp
      have hl4:∀y:Int,((P.map fun x=>(x.2:Int))++[y]).length=P.length+1:=fun t=>by simp
      have Wj:Hid (∀t:Tok×Nat,(P++[t]).length=P.length+1):=fun t=>by simp
      have fI:P.length≤k:=by rw[hpl.out];exact hmk
      clear hlt WK;have bg:=QA KF;clear KF h0;go_wp2_with (first|(go_at_call 31;refine(HC.out _).mono ?_;rintro e w' ⟨rfl,rfl⟩))
      with_reducible refine(FT.out _).mono ?_
      rintro e w2 ⟨rfl,hb2⟩;have QR:=Mem.QN ZU hb2;have dP:Hid (Ul w2 w.heap.size (ς a8 m c8) (P.map (·.1))):=KR hfi.out.1 hb2 (QH _);have yw:Hid (NG w2 w.heap.size (ς a9 m c9) (P.map fun x=>(x.2:Int))):=KR hfi.out.2 hb2 (QH _);clear hb2 hfi ZU HC FT;have hm0:m=0∨∃m',m=m'+1:=by
       cases m with
       |zero=>exact .inl rfl
       |succ m'=>exact .inr ⟨m',rfl⟩
      rcases hm0 with rfl|⟨m',rfl⟩
      case' inl =>
       have KF:fb=true:=by have hP:P=[]:=List.eq_nil_of_length_eq_zero hpl.out;rw[←bg.out,hP];rfl
       subst KF
      case' inr =>
       have uj:RI w2 w2.heap.size a9 (P.map fun x=>(x.2:Int)):=lY (n:=m'+1) (c:=c9) (by have:=yw.out;unfold NG at this;rw[Tf.out]at this;exact this);obtain⟨b9,LF,rfl,_,iy⟩:=uj.at_ (i:=m') (by rw[Tf.out];omega)
       have hy:(P.map fun x=>(x.2:Int)).getD m' 0=((P.getD m' (⟨0,[],0,false⟩,0)).2:Int):=by
        simp[List.getD,List.getElem?_eq_getElem (show m'<P.length by rw[hpl.out];omega)]
       have hdy:decide (((P.getD m' (⟨0,[],0,false⟩,0)).2:Int)<(ln:Int))=fb:=by rw[←bg.out,Qrf hpl.out];simp
       rw[hy]at iy;generalize((P.getD m' (⟨0,[],0,false⟩,0)).2:Int)=y at *;have nm:((m':Int)+1==0)=false:=Qy (by omega);clear uj hy
      all_goals
       go_wp2_with (at_builtin;refine sA w2 rfl _ _ rfl w.heap.size (ς a8 _ c8) _ _ _ ⟨K0,tx,k,_⟩ rfl dP.out yw.out w2.heap.size rfl rfl ?c1 QR.out.size ?_)
       case c1=>rw[yB.out];omega
       intro v3 w3 Rx MO hb3;obtain⟨a3,c3,rfl,_,_⟩:=Uu Rx;rw[SR]at Rx⊢;have Rn:=QA Rx;have bf:=QA MO;have XG:=QA (QR.out.trans (hb3.mono (QH _)));clear Rx MO hb3 dP yw QR;go_wp2_with (at_builtin;refine Qwa w3 rfl _ _ rfl w.heap.size (ς _ _ c9) _ _ _ (ln:Int) rfl bf.out Rn.out w3.heap.size rfl rfl ?c2 XG.out.size ?_)
       case c2=>rw[Tf.out];omega
       intro v4 w4 Rw MN hb4;obtain⟨a4,c4,rfl,_,_⟩:=Qm5 Rw;rw[hl4]at Rw⊢;have SH:=QA MN;have HI4:=QA Rw;have GC:=QA (XG.out.trans (hb4.mono (QH _)));clear Rw MN hb4 Rn bf XG hsl;generalize P.length=pl at *;go_wp2
       go_roundw
       case rel=>exact⟨k+mm,ln,_,pl+1,a3,a4,c3,c4,by omega,by omega,by omega,by go_num,rfl,rfl,rfl,Wj.out _,dS.out,⟨by rw[List.map_append];exact SH.out,by rw[List.map_append];exact HI4.out⟩,GC.out⟩
       case measure=>simp[intOf];omega
   ·obtain⟨hl,hP⟩:=Mb hmid.out (by omega);have hout:SB P=ZQ xs:=by rw[hP];exact Qqa hl
    have dO:Hid (∀t l,(t,l)∈P→ZZ t.text∧t.place+t.text.length≤n):=fun t l hx=>by
     have hlen:=hmid.out.2.2.2.2;rw[hP]at hx;have hc:=xZ (Eh xs);rw[hl,List.append_nil]at hc;have h:=mH (pieces xs) 0 0 true (t,l) hx;rw[←hc,hlen]at h;refine⟨fun y hy=>Sb.out y (h.2 y hy),?_⟩;have h1:=h.1;simp only at h1;omega
    have HF:Hid (∀v w',Ul w' w.heap.size v (SB P)→Below w.heap.size w w'→Yd xs w (ρ (.tuple #[v,ι κ 0,ι κ 0])) w'):=fun v w' a b=>CR.out v w' hl (by rw[←hout];exact a) b
    have FO:Hid (RT Ye 4 wr wr.heap.size a8 (P.map (·.1))):=kC (n:=m) (c:=c8) xM (by have h:=hfi.out.1;unfold Ul at h;rw[List.length_map,hpl.out]at h;exact h) (by rw[List.length_map,hpl.out]);have dJ:Hid (RI wr wr.heap.size a9 (P.map fun x=>(x.2:Int))):=lY (n:=m) (c:=c9) (by have h:=hfi.out.2;unfold NG at h;rw[List.length_map,hpl.out]at h;exact h);have hnk:¬(k:Int)<(n:Int):=by omega
    have vT:m≤100000:=by omega
    clear hl hP hout hmid hfi CR zR KE CJ JX Wk dU YY Sb;obtain⟨w4,hw4⟩:∃x,x=wr:=⟨_,rfl⟩;subst hw4;go_wp2
    go_loopw [15,16,17,18] (fun v15 v16 _ _ w5=>∃(i:Nat)(out:List Tok)(a5:Option Addr)(c5 q:Nat),i≤m∧v16=ι κ i∧v15=ς a5 q c5∧Hid (out.length=q)∧Hid (BW P i out)∧Hid (Ul w5 w4.heap.size (ς a5 q c5) out)∧Hid (Below w4.heap.size w4 w5)) (fun _ v16 _ _ _=>m-(intOf v16).toNat)
    case atStart=>exact⟨0,[],none,0,0,by omega,rfl,rfl,rfl,Qp9 P,World.ownsRow_nil _ _ _ _,Below.refl _ _⟩
    case round =>
     obtain⟨i,out,a5,c5,q,hi,rfl,rfl,hq,hout,hown,MV⟩:=hrel;by_cases him:i<m
     ·have hiP:i<P.length:=by rw[hpl.out];exact him
      obtain⟨t,l0,hx⟩:∃t l,P[i]?=some (t,l):=⟨P[i].1,P[i].2,List.getElem?_eq_getElem hiP⟩;obtain⟨b8,rfl,OA,uQ⟩:=FO.out.at_ (by rw[List.length_map];omega);obtain⟨b9,LF,rfl,iB,_⟩:=dJ.out.at_ (i:=i) (by rw[List.length_map];exact hiP);have SI:Hid (∀W,Below w4.heap.size w4 W→∀j u l,P[j]?=some (u,l)→∀z y,(Ye u)[z]?=some y→W.cell? ⟨b8,j*4+z,none⟩=some y):=fun W hW j u l hj z y hz=>(hW.cell (p:=⟨b8,j*4+z,none⟩) OA).trans (uQ j u (by rw[List.getElem?_map,hj];rfl) z y hz)
      have bj:Hid (∀W,Below w4.heap.size w4 W→∀(j:Nat)(u:Tok)(l:Nat),P[j]? = some (u,l)→W.cell? ⟨b9,LF+j,none⟩=some (ι κ (l:Int))):=fun W hW j u l hj=>by
       have hjl:j<P.length:=by
        rcases Nat.lt_or_ge j P.length with h' |h'
        ·exact h'
        ·rw[List.getElem?_eq_none h']at hj;cases hj
       obtain⟨b',PO,e',hb',hc'⟩:=dJ.out.at_ (i:=j) (by rw[List.length_map];exact hjl);have e2:=Addr.mk.inj (Option.some.inj e');obtain⟨e3,e4,_⟩:=e2;rw[e3,e4,hW.cell (p:=⟨b',PO+j,none⟩) hb',hc'];simp[List.getD,hj]
      have PT:=Qus hout.out hx;obtain⟨ov,hov⟩:∃b,Xt l0 (P.drop (i+1))=b:=⟨_,rfl⟩;obtain⟨cl,hcl⟩:∃b,closes t.kind t.text=b:=⟨_,rfl⟩;have hcc:=fun W=>Qgs t.kind t.text (dO.out t l0 (List.mem_of_getElem? hx)).1 (t.place:Int) t.first W
      rw[hov,hcl]at PT;rw[hcl]at hcc;have HCL:Hid (∀W,Calls prog 33 #[ξ #[ι κ t.kind,σ (strOfNums t.text),ι κ (t.place:Int),τ t.first]] W fun e w'=>e=ρ (τ cl)∧Below W.heap.size W w'):=hcc;have Nj:=QA PT;have FQ:=QA hov;have d0:wr.cell? ⟨b8,i*4,none⟩=some (ι κ t.kind):=SI.out wr MV.out i t l0 hx 0 _ rfl;have d1:wr.cell? ⟨b8,i*4+1,none⟩=some (σ (strOfNums t.text)):=SI.out wr MV.out i t l0 hx 1 _ rfl;have d2:wr.cell? ⟨b8,i*4+2,none⟩=some (ι κ (t.place:Int)):=SI.out wr MV.out i t l0 hx 2 _ rfl;have d3:wr.cell? ⟨b8,i*4+3,none⟩=some (τ t.first):=SI.out wr MV.out i t l0 hx 3 _ rfl;have hlt':(i:Int)<(m:Int):=by omega
      have HX:=QA hx;have yu:=QA (dO.out t l0 (List.mem_of_getElem? hx)).2;clear hcc PT hov hcl hx hiP OA iB uQ;go_wp2_with (at_builtin;refine sA wr rfl _ _ rfl w4.heap.size (ς a5 _ c5) (ς none 0 0) _ [] t rfl hown.out (World.ownsRow_nil _ _ _ _) wr.heap.size rfl rfl ?c3 MV.out.size ?_)
      case c3=>have:=hout.out.2;omega
      intro v6 w6 Hg _ uU;obtain⟨a6,c6,rfl,_,_⟩:=Uu Hg;have BS:(out++[t]).length=q+1:=by rw[List.length_append,hq.out];rfl
      rw[BS]at Hg⊢;obtain⟨L6,ez⟩:∃L,out++[t]=L:=⟨_,rfl⟩;have PT:=Nj.out;have hl2:=hout.out.2;rw[ez]at PT Hg BS;have Nj:=QA PT;rw[hq.out]at hl2;clear PT ez;have zL:=QA Hg;have Sd:=QA (MV.out.trans uU);clear Hg uU hown MV d0 d1 d2 d3;go_wp2
      go_loopw [17] (fun v17 wi=>∃(j dq:Nat),i+1≤j∧j≤m∧v17=ι κ j∧Hid (Xt l0 (P.drop j)=ov)∧wi=w6.drewN dq) (fun v17 _=>m-(intOf v17).toNat)
      case atStart=>exact⟨i+1,0,by omega,by omega,by go_num,FQ.out,rfl⟩
      case round =>
       obtain⟨j,dq,hij,hjm,rfl,hov,rfl⟩:=hrel;have hcs:=Qm6 hpl.out hov.out;have iR:∀q,(w6.drewN q).cell? ⟨b9,LF+i,none⟩=some (ι κ (l0:Int)):=fun q=>bj.out w6 Sd.out i t l0 HX.out
       have d0:∀q,(w6.drewN q).cell? ⟨b8,i*4,none⟩=some (ι κ t.kind):=fun q=>SI.out w6 Sd.out i t l0 HX.out 0 _ rfl
       have d1:∀q,(w6.drewN q).cell? ⟨b8,i*4+1,none⟩=some (σ (strOfNums t.text)):=fun q=>SI.out w6 Sd.out i t l0 HX.out 1 _ rfl
       have d2:∀q,(w6.drewN q).cell? ⟨b8,i*4+2,none⟩=some (ι κ (t.place:Int)):=fun q=>SI.out w6 Sd.out i t l0 HX.out 2 _ rfl
       have d3:∀q,(w6.drewN q).cell? ⟨b8,i*4+3,none⟩=some (τ t.first):=fun q=>SI.out w6 Sd.out i t l0 HX.out 3 _ rfl
       have Wu:Hid (∀q u l,P[j]?=some (u,l)→(w6.drewN q).cell? ⟨b8,j*4,none⟩=some (ι κ u.kind)):=fun q u l hu=>SI.out w6 Sd.out j u l hu 0 _ rfl
       have XZ:Hid (∀q u (l:Nat),P[j]?=some (u,l)→(w6.drewN q).cell? ⟨b9,LF+j,none⟩=some (ι κ (l:Int))):=fun q u l hu=>bj.out w6 Sd.out j u l hu
       have hi0:(0:Int)≤(i:Int):=by omega
       have Mk:(0:Int)≤(j:Int):=by omega
       rcases hcs with⟨u,l,TE,hu,UW,hll⟩|⟨IV,hT⟩|⟨IW,hT⟩
       ·have f8:∀q,(w6.drewN q).cell? ⟨b8,j*4,none⟩=some (ι κ 5):=fun q=>by rw[Wu.out q u l hu,UW]
        have f9:∀q,(w6.drewN q).cell? ⟨b9,LF+j,none⟩=some (ι κ (l0:Int)):=fun q=>by rw[XZ.out q u l hu,hll]
        have Sr:(j:Int)<(m:Int):=by omega
        have HN:=QA ((nD hov.out hu).1 UW hll);have Oc:((l0:Int)==(l0:Int))=true:=by simp
        clear d0 d1 d2 d3 hu UW hll hov;go_wp2
        go_quiet (fail)
        go_wp2
        go_roundw
        case rel=>exact⟨j+1,_,by omega,by omega,by go_num,HN.out,rfl⟩
        case measure=>simp[intOf];omega
       ·have zK:=QA IV;clear IV;rcases hT with⟨u,l,TE,hu,UW,hll,hlt⟩|⟨u,l,TE,hu,UW,hlt⟩|TE
        case' inl =>
         have f8:∀q,(w6.drewN q).cell? ⟨b8,j*4,none⟩=some (ι κ 5):=fun q=>by rw[Wu.out q u l hu,UW]
         have f9:∀q,(w6.drewN q).cell? ⟨b9,LF+j,none⟩=some (ι κ (l:Int)):=fun q=>XZ.out q u l hu
         have Sr:(j:Int)<(m:Int):=by omega
         have Oc:((l:Int)==(l0:Int))=false:=Qy (by omega);have IY:decide ((m:Int)≤(j:Int))=false:=decide_eq_false (by omega);have hlt':(l0:Int)<(l:Int):=by omega
         clear hu UW hll hlt hov;go_wp2
         go_quiet (fail)
        case' inr.inl =>
         have f8:∀q,(w6.drewN q).cell? ⟨b8,j*4,none⟩=some (ι κ u.kind):=fun q=>Wu.out q u l hu
         have f9:∀q,(w6.drewN q).cell? ⟨b9,LF+j,none⟩=some (ι κ (l:Int)):=fun q=>XZ.out q u l hu
         have Sr:(j:Int)<(m:Int):=by omega
         have vX:(u.kind==5)=false:=Qy UW;have IY:decide ((m:Int)≤(j:Int))=false:=decide_eq_false (by omega);have hlt':(l0:Int)<(l:Int):=by omega
         clear hu UW hlt hov;go_wp2
         go_quiet (fail)
        case' inr.inr =>
         obtain rfl:j=m:=by omega
         have Sr:decide ((j:Int)<(j:Int))=false:=decide_eq_false (by omega);clear hov;go_wp2
         go_quiet (fail)
         have IY:(j:Int)≤(j:Int):=by omega
        all_goals
         go_wp2
         go_quiet (fail)
         go_wp2_with fail
         with_reducible refine(HCL.out _).mono ?_
         rintro e w7 ⟨rfl,TM⟩;have Sc:=QA ((below_drewN Sd.out _).trans (TM.mono Sd.out.size));have dQ:=QA (KR (La zL.out _) TM (QH _));clear TM Sr IY d0 d1 d2 d3 iR;cases cl with
         |false =>
          have HN:=QA (Nj.out.2 (.inr rfl));go_wp2
          go_roundw
          case rel=>exact⟨i+1,L6,a6,c6,q+1,by omega,by go_num,rfl,BS,HN.out,dQ.out,Sc.out⟩
          case measure=>simp[intOf];omega
         |true =>
          obtain⟨pe,hpe⟩:=Mem.ZB (t.place+t.text.length);have JU:=Nj.out.1 zK.out rfl;have SQ:=yu.out;rw[hpe]at JU SQ;have HN:=QA JU;have f1:w7.cell? ⟨b8,i*4+1,none⟩=some (σ (strOfNums t.text)):=SI.out w7 Sc.out i t l0 HX.out 1 _ rfl;have f2:w7.cell? ⟨b8,i*4+2,none⟩=some (ι κ (t.place:Int)):=SI.out w7 Sc.out i t l0 HX.out 2 _ rfl;have hts:(strOfNums t.text).size=t.text.length:=strOfNums_size _;have vO:(t.place:Int)+(t.text.length:Int)=(pe:Int):=by omega
          have hwp:IntKind.i64.wrap (pe:Int)=(pe:Int):=by rw[IntKind.wrap_i64];omega
          have dV:Hid ((L6++[(⟨6,[],pe,false⟩:Tok)]).length=q+2):=by show _=_;rw[List.length_append,BS];rfl
          have vL:L6.length≤10000000:=by rw[BS];omega
          clear JU hpe;go_wp2;have KQ:=QA (fun(W:World)(hW:Below w4.heap.size w4 W)=>(⟨SI.out W hW i t l0 HX.out 1 _ rfl,SI.out W hW i t l0 HX.out 2 _ rfl,hW⟩:W.cell? ⟨b8,i*4+1,none⟩=some (σ (strOfNums t.text))∧W.cell? ⟨b8,i*4+2,none⟩=some (ι κ (t.place:Int))∧Below w4.heap.size w4 W));have Rt:Hid (Below w4.heap.size w4 (w7.alloc (θ (Ye ⟨6,[],pe,false⟩).toArray 51)).drew):=(Sc.out.alloc Sc.out.size _).drew
          go_region_held_law (fun W=>W.cell? ⟨b8,i*4+1,none⟩=some (σ (strOfNums t.text))∧W.cell? ⟨b8,i*4+2,none⟩=some (ι κ (t.place:Int))∧Below w4.heap.size w4 W) (first|assumption|exact KQ.out _ (by assumption)|exact KQ.out _ Sc.out|exact KQ.out _ Sc.out.drew|exact KQ.out _ Rt.out) (first|(refine Qgo rfl (.tmp 162) (.tmp 176) rfl w4.heap.size (ς a6 _ c6) L6 ⟨6,[],pe,false⟩ rfl (dQ.out.alloc _).drew w7.heap.size rfl (wZ w7 _) vL Rt.out.size ?_;intro v8 w8 Rv OA;have NA:Below w4.heap.size w4 w8:=OA w4 Rt.out;obtain⟨oq,iY,rfl,_,_⟩:=Uu Rv;clear OA))
          rw[dV.out]at Rv⊢;have HO8:=QA Rv;have CT:=QA NA;clear Rv NA f1 f2 vO hts;go_wp2
          go_roundw
          case rel=>exact⟨i+1,_,oq,iY,q+2,by omega,by go_num,rfl,dV.out,HN.out,HO8.out,CT.out⟩
          case measure=>simp[intOf];omega
       ·rcases hT with⟨u,l,TE,hu,UW,hll,hlt⟩|⟨u,l,TE,hu,UW,hlt⟩
        case' inl =>
         have f8:∀q,(w6.drewN q).cell? ⟨b8,j*4,none⟩=some (ι κ 5):=fun q=>by rw[Wu.out q u l hu,UW]
         have f9:∀q,(w6.drewN q).cell? ⟨b9,LF+j,none⟩=some (ι κ (l:Int)):=fun q=>XZ.out q u l hu
         have Sr:(j:Int)<(m:Int):=by omega
         have Oc:((l:Int)==(l0:Int))=false:=Qy (by omega);have IY:decide ((m:Int)≤(j:Int))=false:=decide_eq_false (by omega);have hlt':decide ((l0:Int)<(l:Int))=false:=decide_eq_false (by omega);clear hu UW hll hlt hov
        case' inr =>
         have f8:∀q,(w6.drewN q).cell? ⟨b8,j*4,none⟩=some (ι κ u.kind):=fun q=>Wu.out q u l hu
         have f9:∀q,(w6.drewN q).cell? ⟨b9,LF+j,none⟩=some (ι κ (l:Int)):=fun q=>XZ.out q u l hu
         have Sr:(j:Int)<(m:Int):=by omega
         have vX:(u.kind==5)=false:=Qy UW;have IY:decide ((m:Int)≤(j:Int))=false:=decide_eq_false (by omega);have hlt':decide ((l0:Int)<(l:Int))=false:=decide_eq_false (by omega);clear hu UW hlt hov
        all_goals
         have HN:=QA (Nj.out.2 (.inl IW));clear d0 d1 d2 d3 IW;go_wp2
         go_quiet (fail)
         go_wp2
         go_quiet (fail)
         have LJ:¬(l0:Int)<(l:Int):=of_decide_eq_false hlt';go_wp2
         go_roundw
         case rel=>exact⟨i+1,L6,a6,c6,q+1,by omega,by go_num,rfl,BS,HN.out,La zL.out _,below_drewN Sd.out _⟩
         case measure=>simp[intOf];omega
     ·have HE:Hid (out=SB P):=aW hout.out (by rw[hpl.out];omega);have ic:¬(i:Int)<(m:Int):=by omega
      go_wp2
      go_ret3
      exact HF.out _ _ (by rw[←HE.out];exact Qp8 hown.out ZU.out.size) (ZU.out.trans (MV.out.mono ZU.out.size))
