import Derived.Test.YtaiihnniblibaaaGreatDoorG47
import Derived.Test.YtaiihnniblibaaaGreatDoorG49
set_option maxHeartbeats 16000000
set_option maxRecDepth 100000
set_option linter.unusedVariables false
open Go.ChangeShapes Go.WideShapes Go.ChangeAt Go.RowKit
open Go.Lib renaming hid→QA
open Go.RowKit.Below renaming refl→QF
open _root_.Nat renaming le_refl→QH,zero_add→JN,lt_of_lt_of_le→JQ
open _root_.List renaming setIfInBounds_toArray→VG,set_cons_succ→VF,set_cons_zero→VE,length_append→JF
open Go.Value renaming string→σ,int→ι,slice→ς,pointer→π,bool→τ,agg→ξ
open Go.IntKind renaming i64→κ
open Go.Obj renaming cells→θ
open Go.Ending renaming returned→ρ
namespace Go.Proofs.YtaiihnniblibaaaGreatDoor
namespace JI
open Tree Mem KL QB
structure Bx(w0:World)(g:Nat)(k:Int)(x y:ByteArray)(A:Option Addr)(n C:Nat)(c:F):Prop where
  cl:∀W,Below w0.heap.size w0 W→W.cell? ⟨g,0,none⟩=some (ι κ k)∧W.cell? ⟨g,1,none⟩=some (σ x)∧W.cell? ⟨g,2,none⟩=some (σ y)∧W.cell? ⟨g,3,none⟩=some (ς A n C)
  fs:∀W,Below w0.heap.size w0 W→Fs W (Lo W.heap.size) (ς A n C) c
  sh:∀W,Below w0.heap.size w0 W→Calls Tryz.prog 6 #[ξ #[ι κ k,σ x,σ y,ς A n C]] W fun e w'=>e=ρ (τ (SM k x y c))∧Below W.heap.size W w'
theorem Bx.of{w0:World}{g:Nat}{k:Int}{x y:ByteArray}{A:Option Addr}{n C:Nat}{c:F}(hc:w0.cell? ⟨g,0,none⟩=some (ι κ k)∧w0.cell? ⟨g,1,none⟩=some (σ x)∧w0.cell? ⟨g,2,none⟩=some (σ y)∧w0.cell? ⟨g,3,none⟩=some (ς A n C))(hg:g<w0.heap.size)(hf:Fs w0 (Lo w0.heap.size) (ς A n C) c):Bx w0 g k x y A n C c :=
  ⟨fun W hb=>⟨(hb.cell (p:=⟨g,0,none⟩) hg).trans hc.1,(hb.cell (p:=⟨g,1,none⟩) hg).trans hc.2.1,(hb.cell (p:=⟨g,2,none⟩) hg).trans hc.2.2.1,(hb.cell (p:=⟨g,3,none⟩) hg).trans hc.2.2.2⟩,
   fun W hb=>hf.later hb,fun W hb=>mj k x y A n C c W (hf.later hb)⟩
theorem Bx.right{w0:World}{g:Nat}{k:Int}{x y:ByteArray}{A:Option Addr}{n C:Nat}{c:F}(h:Bx w0 g k x y A n C c)(hs:SM k x y c=true)(W:World)(hb:Below w0.heap.size w0 W) :
    Calls Tryz.prog 7 #[ξ #[ι κ k,σ x,σ y,ς A n C]] W fun e w'=>e=ρ (τ (Jt JC JT k x y c))∧Below W.heap.size W w':=by
  unfold SM at hs;rw[Bool.and_eq_true,decide_eq_true_eq]at hs;have Ss:=lH hs.1;exact cB k x y A n C c W (h.fs W hb) (by have:=Ss.hx;omega) (by have:=Ss.hy;omega) (mK hs.1)
theorem tN{k:Int}{x y:ByteArray}{c:F}(hs:SM k x y c=true):(sT c).size≤200000∧(X9 c).length≤200000∧c.len<600:=by
  unfold SM at hs;rw[Bool.and_eq_true,decide_eq_true_eq]at hs;have h:=tj hs.1 (by omega);exact⟨h.1,h.2,by have:=Yk c;omega⟩
theorem Qlu{x y:ByteArray}{c:F}(hr:Jt JC JT 1 x y c=true):K7 NQ (Z6 c)∧Z4 JC JT 1 x true 0 0 (Z6 c)=true∧(sT (Z6 c)).size≤(sT c).size:=by
  obtain⟨hd1,hd2⟩:=zq c 0 0 (Kq hr) (Jr hr).1
  exact⟨nR hd1,hd2,td c fun j k x y kc r hd e=>by
    subst e;exact kA (Xx c 0 j (Jr hr).1 hd).1⟩
theorem Qqt{a b:Nat}(h:a≤200000)(k:b≤200000):¬9223372036854775807<a+b:=by omega
theorem Qd9(k:Int)(x y:ByteArray)(A:Option Addr)(n C:Nat)(c:F)(k':Int)(x' y':ByteArray)(A':Option Addr)(n' C':Nat)(c':F)(w:World)(hf:Fs w (Lo w.heap.size) (ς A n C) c)(hf':Fs w (Lo w.heap.size) (ς A' n' C') c')(hT:Lex.LO w) :
    Calls Tryz.prog 5 #[ξ #[ι κ k,σ x,σ y,ς A n C],ξ #[ι κ k',σ x',σ y',ς A' n' C']] w fun e w'=>e=ρ (τ true)∧Below w.heap.size w w':=by
  have h1:=Qb w (θ #[ι κ k,σ x,σ y,ς A n C] 24);have h2:=Qb (w.alloc (θ #[ι κ k,σ x,σ y,ς A n C] 24)) (θ #[ι κ k',σ x',σ y',ς A' n' C'] 24);have hb:Below w.heap.size w ((w.alloc (θ #[ι κ k,σ x,σ y,ς A n C] 24)).alloc (θ #[ι κ k',σ x',σ y',ς A' n' C'] 24)):=h1.trans (h2.mono h1.size);have hq:=Zp w k x y (ς A n C) _ h2;have hq':=Zp (w.alloc (θ #[ι κ k,σ x,σ y,ς A n C] 24)) k' x' y' (ς A' n' C') _ (QF _ _);have hz:(w.alloc (θ #[ι κ k,σ x,σ y,ς A n C] 24)).heap.size=w.heap.size+1:=by simp
  rw[hz]at hq';have hz2:((w.alloc (θ #[ι κ k,σ x,σ y,ς A n C] 24)).alloc (θ #[ι κ k',σ x',σ y',ς A' n' C'] 24)).heap.size=w.heap.size+2:=by simp
  have HX:=QA (Bx.of hq (by rw[hz2];omega) (hf.later hb));have CK:=QA (Bx.of hq' (by rw[hz2];omega) (hf'.later hb));have HT:Hid (∀W,Below ((w.alloc (θ #[ι κ k,σ x,σ y,ς A n C] 24)).alloc (θ #[ι κ k',σ x',σ y',ς A' n' C'] 24)).heap.size ((w.alloc (θ #[ι κ k,σ x,σ y,ς A n C] 24)).alloc (θ #[ι κ k',σ x',σ y',ς A' n' C'] 24)) W→Lex.LO W):=fun W hW=>(hT.below hb hT.pos).below hW (hT.below hb hT.pos).pos
  have HE:=QA hb;have Lf:c.len=n:=(Z5 hf).symm;have Ob:c'.len=n':=(Z5 hf').symm;have EF:=QA Lf;have MK:=QA Ob;clear hf hf' hT Lf Ob hb h1 h2 hz hz2;obtain⟨w0,hw0⟩:∃w0,(w.alloc (θ #[ι κ k,σ x,σ y,ς A n C] 24)).alloc (θ #[ι κ k',σ x',σ y',ς A' n' C'] 24)=w0:=⟨_,rfl⟩;rw[hw0]at HX CK HT HE;have XQ:=QA hw0;clear hw0;obtain⟨sb,Dr⟩:=Mem.ZB (SM k x y c);obtain⟨bH,IJ⟩:∃sb,SM k' x' y' c'=sb:=⟨_,rfl⟩;have HS:=QA (HX.out.sh _ (QF _ _));rw[Dr]at HS;have Br:=QA Dr;have Bq:=QA IJ;have UQ:Hid (Below w0.heap.size w0 w0):=QF _ _;obtain⟨q0,q1,q2,q3⟩:=hq;clear Dr IJ hq';go_enter Tryz.func5,Tryz.ntmps5;go_wp2_with (fail);rw[XQ.out];refine c₁ HS.out fun w1 hb=>?_;have QJ:=QA hb;clear hb q0 q1 q2 q3 HS;cases sb with
  |false=>have HK:=QA (QB.Kt w1 (HT.out w1 QJ.out));go_wp2_with fail;refine c₁ HK.out fun wk hb=>?_;have BD:=QA (HE.out.trans (QJ.out.mono HE.out.size));have Rp:=QN BD hb;clear hb;go_wp2;go_ret;exact⟨rfl,Rp.out⟩
  |true =>
   have HS:=QA (CK.out.sh w1 QJ.out);rw[Bq.out]at HS;obtain⟨q0,q1,q2,q3⟩:=CK.out.cl w1 QJ.out;go_wp2_with fail;refine c₁ HS.out fun w2 hb=>?_;have QR:=QN QJ hb;clear hb q0 q1 q2 q3 HS;cases bH with
   |false=>have HK:=QA (QB.Kt w2 (HT.out w2 QR.out));go_wp2_with fail;refine c₁ HK.out fun wk hb=>?_;have BD:=QA (HE.out.trans (QR.out.mono HE.out.size));have Rp:=QN BD hb;clear hb;go_wp2;go_ret;exact⟨rfl,Rp.out⟩
   |true =>
    obtain⟨rb,UA⟩:=Mem.ZB (Jt JC JT k x y c);obtain⟨bS,IL⟩:∃rb,Jt JC JT k' x' y' c'=rb:=⟨_,rfl⟩;have Rj:=QA UA;have Nk:=QA IL;clear UA IL;have HS:=QA (HX.out.right Br.out w2 QR.out);rw[Rj.out]at HS;obtain⟨q0,q1,q2,q3⟩:=HX.out.cl w2 QR.out;go_wp2_with fail;refine c₁ HS.out fun w3 hb=>?_;have XG:=QN QR hb;clear hb q0 q1 q2 q3 HS;cases rb with
    |false=>have HK:=QA (QB.Kt w3 (HT.out w3 XG.out));go_wp2_with fail;refine c₁ HK.out fun wk hb=>?_;have BD:=QA (HE.out.trans (XG.out.mono HE.out.size));have Rp:=QN BD hb;clear hb;go_wp2;go_ret;exact⟨rfl,Rp.out⟩
    |true =>
     have HS:=QA (CK.out.right Bq.out w3 XG.out);rw[Nk.out]at HS;obtain⟨q0,q1,q2,q3⟩:=CK.out.cl w3 XG.out;go_wp2_with fail;refine c₁ HS.out fun w4 hb=>?_;have GC:=QN XG hb;clear hb q0 q1 q2 q3 HS;cases bS with
     |false=>have HK:=QA (QB.Kt w4 (HT.out w4 GC.out));go_wp2_with fail;refine c₁ HK.out fun wk hb=>?_;have BD:=QA (HE.out.trans (GC.out.mono HE.out.size));have Rp:=QN BD hb;clear hb;go_wp2;go_ret;exact⟨rfl,Rp.out⟩
     |true =>
      obtain⟨rfl,rfl,rfl⟩:=xA Rj.out;obtain⟨rfl,rfl,rfl⟩:=xA Nk.out;obtain⟨hc1,hc2,hc3⟩:=tN Br.out;obtain⟨hd1,hd2,hd3⟩:=tN Bq.out;rw[EF.out]at hc3;rw[MK.out]at hd3;have zT:=QA hc1;have Lx:=QA hc2;have yL:=QA hd1;have HD2:=QA hd2;clear hc1 hc2 hd1 hd2;obtain⟨_,_,e,YR,UN⟩:=(CK.out.fs w4 GC.out).slice;injection e with e0 e1 e2;clear e0;rw[←e1]at YR;rw[←e2]at YR UN;clear e1 e2;have zR:=QA (CK.out.fs w4 GC.out);go_wp2
      go_loopw [5,6] (fun s5 s6 wr=>∃(j ln cp:Nat)(Al:Option Addr)(L:List Nd),j≤n'∧ln≤j∧ln≤cp∧s6=ι κ (j:Int)∧s5=ς Al ln cp∧Hid (L.length=ln)∧Hid (Pw ((Kc c').take j)=L)∧Hid (Hb w4.heap.size wr (ς Al ln cp) L)∧Hid (Below w4.heap.size w4 wr)) (fun _ i _=>n'-(intOf i).toNat)
      case atStart=>exact⟨0,0,0,none,[],Nat.zero_le _,QH _,QH _,rfl,rfl,rfl,rfl,⟨V7.nil _ _,fun g h=>by cases h⟩,QF _ _⟩
      case round =>
        obtain⟨j,ln,cp,Al,L,hj,hlj,hlc,rfl,rfl,HL,HD,HO,Lz⟩:=hrel;have Ns:=QA (GC.out.trans (Lz.out.mono GC.out.size));obtain⟨q0,q1,q2,q3⟩:=CK.out.cl wr Ns.out;by_cases hlt:j<n'
        ·obtain⟨kk,kx,ky,kc,kr,hdr,JG⟩:=F.drop_cons (n:=j) (f:=c') (by rw[MK.out];exact hlt);obtain⟨b,off,Ak,Ck,rfl,hc0,Sq⟩:=AB j hdr zR.out Lz.out;have hlt':(j:Int)<(n':Int):=by omega
         have Mk:(0:Int)≤(j:Int):=by omega
         have hstep:=Qvx (tH hdr);rw[HD.out]at hstep;have HST:=QA hstep;have Np:=QA (Sq.below Lz.out (QH _));obtain⟨r0,r1,r2,r3⟩:=hc0 wr (QF _ _);clear hdr JG hc0 Sq hstep;by_cases h2:kk=2
         ·subst h2;have hL:Hid (Pw ((Kc c').take (j+1))=L):=by
             show _=_;rw[HST.out,if_neg (by simp[NN]),List.append_nil]
          clear HST;go_wp2
          go_roundw
          case rel=>exact⟨j+1,ln,cp,Al,L,by omega,by omega,hlc,by go_num,rfl,HL.out,hL.out,HO.out,Lz.out⟩
          case measure=>simp[intOf];omega
         ·have h2':(kk != 2)=true:=by simpa using h2
          by_cases h3:kk=3
          ·subst h3;have hL:Hid (Pw ((Kc c').take (j+1))=L):=by
              show _=_;rw[HST.out,if_neg (by simp[NN]),List.append_nil]
           clear HST;go_wp2
           go_roundw
           case rel=>exact⟨j+1,ln,cp,Al,L,by omega,by omega,hlc,by go_num,rfl,HL.out,hL.out,HO.out,Lz.out⟩
           case measure=>simp[intOf];omega
          ·have h3':(kk != 3)=true:=by simpa using h3
           have uO:NN ⟨kk,kx,ky,kc⟩=true:=by unfold NN;simp[h2,h3]
           have hL:Hid (Pw ((Kc c').take (j+1))=L++[⟨kk,kx,ky,kc⟩]):=by show _=_;rw[HST.out,if_pos uO]
           clear HST uO h2 h3;go_wp2_with (at_builtin;refine Q1d (v:=ς Al ln cp) rfl _ _ rfl w4.heap.size wr L wr.heap.size ⟨kk,kx,ky,kc⟩ Ak kc.len Ck rfl rfl rfl HO.out Lz.out.size Np.out (by rw[HL.out];omega) ?_);intro v2 w2 Sn hb2;obtain⟨a2,iW,rfl,Oq,Oo⟩:=Sn.1.slice;have hll:(L++([⟨kk,kx,ky,kc⟩]:List Nd)).length=ln+1:=by rw[JF,HL.out];rfl
           rw[hll]at Sn Oq⊢;have RY:=QA Sn;have yN:=QA (Lz.out.trans hb2);have HLL:=QA hll;clear Sn hb2 Oo hll;go_wp2
           go_roundw
           case rel=>exact⟨j+1,ln+1,iW,a2,_,by omega,by omega,Oq,by go_num,rfl,HLL.out,hL.out,RY.out,yN.out⟩
           case measure=>simp[intOf];omega
        ·have hjn:j=n':=by omega
         subst hjn;have hL:Pw (Kc c')=L:=by have:=HD.out;rwa[List.take_of_length_le (by rw[Eg,MK.out];exact QH _)]at this
         have hfo:Fs wr (Lo wr.heap.size) (ς Al ln cp) (Vg L):=lX HO.out.1 (fun b hb=>JQ hb Lz.out.size) (fun g hg=>HO.out.1.lt hg);rw[←hL,←G6]at hfo;obtain⟨hs1,hs2,hs3⟩:=Qlu Nk.out;obtain⟨hby,IM⟩:=Qqu kR.1 kR.2 Rj.out Nk.out;have bh:=QA hfo;have QL:=QA (gm (nm:=JC) (tk:=JT) 1 ⟨#[]⟩ 0 1 ⟨#[]⟩ ⟨#[]⟩ A n C c wr (HX.out.fs wr Ns.out) (Kq Rj.out) (Jr Rj.out).1 (by have:=zT.out;omega));rw[AU]at QL
         have dH:Hid (∀W,Below wr.heap.size wr W→Calls Tryz.prog 10 #[ξ #[ι κ 1,σ ⟨#[]⟩,σ ⟨#[]⟩,ς Al ln cp]] W fun e w'=>e = ρ (σ (strOfNums (X9 (Z6 c'))))∧Below W.heap.size W w'):=fun W hW=>by
           have:=gm (nm:=JC) (tk:=JT) 1 ⟨#[]⟩ 0 1 ⟨#[]⟩ ⟨#[]⟩ Al ln cp (Z6 c') W (bh.out.later hW) hs1 hs2 (by have:=yL.out;omega);rwa[AU]at this
         have hz2:(X9 (Z6 c')).length≤200000:=by have:=hs3;rw[AU,strOfNums_size]at this;exact Nat.le_trans this yL.out
         have Wc:=QA hz2;have Sb:=QA hby
         obtain⟨Q4c,Q4e⟩:=Mem.ZB (Vi c (Z6 c'));rw[Q4e]at IM;have Q4h:=QA Q4e;have zI:=QA IM;have HLD:=QA hL;obtain⟨bY,q1',q2',q3'⟩:=HX.out.cl wr Ns.out;clear Q4e hL hfo hs1 hs2 hs3 hby IM Rj Nk hz2 HD hlt;generalize X9 c=Z at *;generalize X9 (Z6 c')=Z' at *;obtain⟨Q4g,Q4d⟩:=Mem.ZB (Z++Z');rw[Q4d]at zI;have Q4f:=QA Q4d;clear Q4d;go_wp2_with fail;refine c₁ QL.out fun w6 hb=>?_;have yr:=QA hb;clear hb q0 q1 q2 q3 bY q1' q2' q3' QL;go_wp2_with fail;refine c₁ (dH.out w6 yr.out) fun w7 hb=>?_;have yq:=QN yr hb;have Sc:=QA (Ns.out.trans (yq.out.mono Ns.out.size));clear hb dH yr;have ue:(strOfNums Z).size≤200000:=by rw[strOfNums_size];exact Lx.out
         have hzb:(strOfNums Z').size≤200000:=by rw[strOfNums_size];exact Wc.out
         have hzz:=Qqt ue hzb;obtain⟨cc,W3,Lh,Hq,MT,hbW,UA⟩:=Lex.xc w7 (strOfNums Z++strOfNums Z') (by rw[ByteArray.size_append];unfold maxLen;omega);rw[Qqe (Qv0 Sb.out) (Qrc Sb.out),Q4f.out]at UA;have hzl:Q4g.length≤400000:=by rw[←Q4f.out,JF];have h1:=Lx.out;have h2:=Wc.out;omega
         have hzs:(strOfNums Z++strOfNums Z').size=Q4g.length:=by rw[←Q4f.out,ByteArray.size_append,strOfNums_size,strOfNums_size,JF]
         rw[hzs]at Lh Hq;have CT:=QN Sc hbW;have dL:=QN yq hbW;have HP:=QA (zy _ Q4g.length cc Q4g W3 _ UA (QH _) rfl Hq MT (by omega) (HT.out W3 CT.out));clear UA hbW Hq MT hzl hzs;go_wp2_with fail;refine HP.out.mono ?_;rintro e w9 ⟨hb,h6⟩;rw[zI.out]at h6;obtain⟨A9,C9,he,GD⟩:=h6;obtain⟨n9,uw⟩:=Mem.ZB (Q4c.len);have he:e=ρ (.tuple #[ξ #[ι κ 1,σ ⟨#[]⟩,σ ⟨#[]⟩,ς A9 Q4c.len C9],ι κ 0,ι κ 0]):=he;have GD:Fs w9 (Mi W3.heap.size w9.heap.size) (ς A9 Q4c.len C9) Q4c:=GD;have jb:Fs w9 (Lo w9.heap.size) (ς A9 Q4c.len C9) Q4c:=GD.more fun b hb=>hb.2
         rw[uw]at he jb;subst he;have h7:=Qb w9 (θ #[ι κ 1,σ ⟨#[]⟩,σ ⟨#[]⟩,ς A9 n9 C9] 24);have HY:=QA (Zp w9 1 ⟨#[]⟩ ⟨#[]⟩ (ς A9 n9 C9));have TM:=hb.trans (h7.mono hb.size);have Rt:=QN CT TM;have dK:=QN dL TM;have HG:=QA (jb.later h7);clear hb GD jb h7 TM HP Sc yq CT dL uw ue hzb hzz Lh zT Lx yL HD2 Wc Sb zI;go_wp2_with fail;obtain⟨wa,fy⟩:=Mem.ZB (w9.alloc (θ #[ι κ 1,σ ⟨#[]⟩,σ ⟨#[]⟩,ς A9 n9 C9] 24));rw[fy]at HY Rt dK HG⊢;have uA:=oI (Kc c');have HFC:=QA (HX.out.fs wa Rt.out);have NX:=QA (bh.out.later dK.out);have yf:Hid (∀W,Below wa.heap.size wa W→Below w0.heap.size w0 W):=fun W hW=>Rt.out.trans (hW.mono Rt.out.size)
         have yB:Hid ((Kc c).length≤600∧(Kc c++Pw (Kc c')).length≤1200):=by have e1:=Eg c;have e2:=Eg c';rw[EF.out]at e1;rw[MK.out]at e2;refine⟨by omega,?_⟩;rw[JF];omega
         refine Qmy (JA wa.drew (fun i=>([some (τ true),some (τ true),some (ι κ 0),some (τ true),some (τ true),some (τ true),some (ξ #[ι κ 1,σ ⟨#[]⟩,σ ⟨#[]⟩,ς A9 n9 C9]),none,some (π (some ⟨w.heap.size,3,none⟩)),some (ς A n C),none,some (ς Al ln cp),none,none,some (τ true),some (τ true),some (τ true)]:List (Option Value)).getD i none) (Kc c) (Pw (Kc c'))) (by kernel_rfl) (by decide) (by kernel_rfl) JA.start ?steps ?done
         case steps =>
           intro L xv W hI a ha;have hW:Below wa.heap.size wa W:=⟨hI.KN.os,hI.KN.tape,hI.KN.output,hI.KN.size,hI.KN.block⟩;have hWd:wa.drew.heap.size=wa.heap.size:=rfl;simp only[Q6]at ha;simp only[VG,VF,VE,JN,Nat.reduceAdd]at ha;subst ha;refine⟨?s0,?s1,?s2,?s3,?s4,?s5,?s6,?s7,?s8,?s9,?GH,?Sg,?Ik,?vq,?vp,?bR,?bQ,trivial⟩;all_goals intro hL hd K hK
           all_goals(try simp only[Act.put,VG,VF,VE]at hK)
           case s0=>clear hd;refine(if_pos (by rfl)).mpr ?_;go_simp;go_at_call 8;refine c₁ (QB.Kt W (HT.out W (yf.out W hW))) fun w' hb=>?_;exact hK.out _ _ (hI.const hb rfl (by decide) (by decide) (by decide) (by decide))
           case s1=>have hx0:xv 0=τ true:=hI.kc 0 _ rfl (hd 0 (by kernel_rfl));clear hd;rw[hx0]at hK⊢;refine(if_pos (by rfl)).mpr ?_;go_simp;exact hK.out _ _ (hI.const (QF _ _) rfl (by decide) (by decide) (by decide) (by decide))
           case s2=>have hx1:xv 1=τ true:=hI.kc 1 _ rfl (hd 1 (by kernel_rfl));clear hd;rw[hx1]at hK⊢;refine(if_pos (by rfl)).mpr ?_;go_simp;exact hK.out _ _ (hI.const (QF _ _) rfl (by decide) (by decide) (by decide) (by decide))
           case s3=>have hx1:xv 1=τ true:=hI.kc 1 _ rfl (hd 1 (by kernel_rfl));have hx2:xv 2=ι κ 0:=hI.kc 2 _ rfl (hd 2 (by kernel_rfl));clear hd;rw[hx1]at hK⊢;rw[hx2]at hK⊢;refine(if_pos (by rfl)).mpr ?_;go_simp;exact hK.out _ _ (hI.const (QF _ _) rfl (by decide) (by decide) (by decide) (by decide))
           case s4=>have hx1:xv 1=τ true:=hI.kc 1 _ rfl (hd 1 (by kernel_rfl));have hx3:xv 3=τ true:=hI.kc 3 _ rfl (hd 3 (by kernel_rfl));clear hd;rw[hx1]at hK⊢;rw[hx3]at hK⊢;refine(if_pos (by rfl)).mpr ?_;go_simp;exact hK.out _ _ (hI.const (QF _ _) rfl (by decide) (by decide) (by decide) (by decide))
           case s5=>have ZP:xv 4=τ true:=hI.kc 4 _ rfl (hd 4 (by kernel_rfl));clear hd;rw[ZP]at hK⊢;refine(if_pos (by rfl)).mpr ?_;go_simp;exact hK.out _ _ (hI.const (QF _ _) rfl (by decide) (by decide) (by decide) (by decide))
           case s6=>have ZY:xv 5=τ true:=hI.kc 5 _ rfl (hd 5 (by kernel_rfl));clear hd;rw[ZY]at hK⊢;refine(if_pos (by rfl)).mpr ?_;obtain⟨r0,r1,r2,r3⟩:=HY.out W hW;go_simp;exact hK.out _ _ (hI.const (QF _ _) rfl (by decide) (by decide) (by decide) (by decide))
           case s7=>have ZY:xv 5=τ true:=hI.kc 5 _ rfl (hd 5 (by kernel_rfl));clear hd;rw[ZY]at hK⊢;refine(if_pos (by rfl)).mpr ?_;have Mo:=Qb W (θ #[] 24);go_simp;exact hK.out _ _ (hI.new rfl hL Mo (Hb.new hI.KN.size))
           case s8|Sg=>have ZY:xv 5=τ true:=hI.kc 5 _ rfl (hd 5 (by kernel_rfl));clear hd;rw[ZY]at hK⊢;refine(if_pos (by rfl)).mpr ?_;go_simp;exact hK.out _ _ (hI.const (QF _ _) rfl (by decide) (by decide) (by decide) (by decide))
           case s9=>have ZY:xv 5=τ true:=hI.kc 5 _ rfl (hd 5 (by kernel_rfl));have UI:xv 8=π (some ⟨w.heap.size,3,none⟩):=hI.kc 8 _ rfl (hd 8 (by kernel_rfl));clear hd;rw[ZY]at hK⊢;rw[UI]at hK⊢;refine(if_pos (by rfl)).mpr ?_;obtain⟨q0,q1,q2,q3⟩:=HX.out.cl W (yf.out W hW);go_simp;exact hK.out _ _ (hI.const (QF _ _) rfl (by decide) (by decide) (by decide) (by decide))
           case GH=>have ZY:xv 5=τ true:=hI.kc 5 _ rfl (hd 5 (by kernel_rfl));have IC:xv 9=ς A n C:=hI.kc 9 _ rfl (hd 9 (by kernel_rfl));have h7:=hd 7 (by kernel_rfl);obtain⟨v',W',hr,ho,jl⟩:=(hI.r7 h7 hL).app 22 hI.KN.size (HFC.out.below hW (QH _)) (by rw[EF.out];simp;omega);clear hd;rw[ZY]at hK⊢;rw[IC]at hK⊢;refine(if_pos (by rfl)).mpr ?_;exact nC rfl rfl rfl hr (hK.out _ _ (hI.OY rfl hL h7 jl ho))
           case Ik=>have ZY:xv 5=τ true:=hI.kc 5 _ rfl (hd 5 (by kernel_rfl));have Dj:xv 11=ς Al ln cp:=hI.kc 11 _ rfl (hd 11 (by kernel_rfl));have h10:=hd 10 (by kernel_rfl);obtain⟨v',W',hr,ho,jl⟩:=(hI.vv h10 hL).app 22 hI.KN.size (NX.out.below hW (QH _)) (by have:=yB.out.2;rw[JF]at this;rw[Qnq];omega);rw[Qnp]at ho;clear hd;rw[ZY]at hK⊢;rw[Dj]at hK⊢;refine(if_pos (by rfl)).mpr ?_;exact nC rfl rfl rfl hr (hK.out _ _ (hI.OX rfl hL h10 jl ho))
           case vq=>have ZY:xv 5=τ true:=hI.kc 5 _ rfl (hd 5 (by kernel_rfl));have h12:=hd 12 (by kernel_rfl);have ho:=hI.vt h12;obtain⟨a12,c12,e12,iA,uS⟩:=ho.1.slice;obtain⟨n12,Q4i⟩:=Mem.ZB ((Kc c++Pw (Kc c')).length);rw[Q4i]at e12;clear ho iA uS Q4i;clear hd;rw[ZY]at hK⊢;rw[e12]at hK⊢;refine(if_pos (by rfl)).mpr ?_;go_simp;exact hK.out _ _ (hI.node rfl h12 (by rw[e12]))
           case vp =>
             have ZY:xv 5=τ true:=hI.kc 5 _ rfl (hd 5 (by kernel_rfl));have JK:xv 6=ξ #[ι κ 1,σ ⟨#[]⟩,σ ⟨#[]⟩,ς A9 n9 C9]:=hI.kc 6 _ rfl (hd 6 (by kernel_rfl));have VQ:=hd 13 (by kernel_rfl);have IE:=hI.k13 VQ;have ho:=hI.vt (hI.d13 VQ);obtain⟨a12,c12,e12,iA,uS⟩:=ho.1.slice;rw[e12]at IE ho;obtain⟨n12,Q4i⟩:=Mem.ZB ((Kc c++Pw (Kc c')).length);rw[Q4i]at IE ho;have DA:=lX (S':=Lo W.heap.size) ho.1 (fun b hb=>JQ hb hI.KN.size) (fun g hg=>ho.1.lt hg);rw[xu,xX,←G6,Q4h.out]at DA;have hs:Y1 1 ⟨#[]⟩ ⟨#[]⟩ Q4c 1 ⟨#[]⟩ ⟨#[]⟩ Q4c=true:=by simp[Y1,zC]
             have Bo:=QA (mi Q4c.size 1 ⟨#[]⟩ ⟨#[]⟩ A9 n9 C9 Q4c 1 ⟨#[]⟩ ⟨#[]⟩ a12 n12 c12 Q4c W (QH _) (HG.out.later hW) DA);rw[hs]at Bo;clear hs DA ho Q4i iA uS e12;clear hd;rw[ZY]at hK⊢;rw[JK]at hK⊢;rw[IE]at hK⊢;refine(if_pos (by rfl)).mpr ?_;go_simp;go_at_call 11;refine c₁ Bo.out fun w' hb=>?_;exact hK.out _ _ (hI.const hb rfl (by decide) (by decide) (by decide) (by decide))
           case bR=>have ZY:xv 5=τ true:=hI.kc 5 _ rfl (hd 5 (by kernel_rfl));have vD:xv 14=τ true:=hI.kc 14 _ rfl (hd 14 (by kernel_rfl));clear hd;rw[ZY]at hK⊢;rw[vD]at hK⊢;refine(if_pos (by rfl)).mpr ?_;go_simp;exact hK.out _ _ (hI.const (QF _ _) rfl (by decide) (by decide) (by decide) (by decide))
           case bQ=>have vC:xv 15=τ true:=hI.kc 15 _ rfl (hd 15 (by kernel_rfl));clear hd;rw[vC]at hK⊢;refine(if_pos (by rfl)).mpr ?_;go_simp;exact hK.out _ _ (hI.const (QF _ _) rfl (by decide) (by decide) (by decide) (by decide))
         case done=>intro L xv W hI hall a ha;have hW:Below wa.heap.size wa W:=⟨hI.KN.os,hI.KN.tape,hI.KN.output,hI.KN.size,hI.KN.block⟩;have ID:xv 16=τ true:=hI.kc 16 _ rfl (hall 16 (by decide));have HBF:=QA (HE.out.trans ((yf.out W hW).mono HE.out.size));simp only[Q6]at ha;simp only[VG,VF,VE,JN,Nat.reduceAdd]at ha;rw[ID]at ha;subst ha;clear hI hall hW ID;go_wp2;go_ret;exact⟨rfl,HBF.out⟩
