import Derived.Test.YtmepekognmlblaaGreatDoorP18
import Derived.Test.YtmepekognmlblaaGreatDoorP19
set_option maxHeartbeats 8000000
set_option maxRecDepth 100000
set_option linter.unusedVariables false
open Go.ChangeShapes Go.WideShapes Go.ChangeAt Go.RowKit
open _root_.Nat renaming lt_of_lt_of_le→VE
open Go.Value renaming string→σ,int→ι,slice→ς,pointer→π,agg→ξ
open Go.IntKind renaming i64→γ
open Go.Obj renaming cells→θ
open Go.Ending renaming returned→ρ
namespace Go.Proofs.YtmepekognmlblaaGreatDoor
namespace Tree
open Mem
def fO(N:Nat):Prop:=∀(k:Int)(x y:ByteArray)(A:Option Addr)(n C:Nat)(c:F)(w:World),c.size≤N→c.size≤1000000000→Fs w (Lo w.heap.size) (ς A n C) c→
 Calls Tryz.prog 25 #[ξ #[ι γ k,σ x,σ y,ς A n C]] w fun e w'=>e=ρ (ι γ ((c.size+1:Nat):Int))∧Below w.heap.size w w'
structure bz(w wr:World)(A:Option Addr)(n C:Nat)(f:F)(m BO:Nat):Prop where
 QF:Below w.heap.size w wr
 fs:Fs wr (Lo w.heap.size) (ς A n C) f
 eq:m+f.size=BO
theorem Qn6(N:Nat)(ih:∀M,M<N→fO M):fO N:=by
 intro k x y A n C c w hN hbig hf;have Sm:=Lib.hid ih;have b1:=Qa w (θ #[ι γ k,σ x,σ y,ς A n C] 24);have HM:Hid (bz w (w.alloc (θ #[ι γ k,σ x,σ y,ς A n C] 24)) A n C c 1 (c.size+1)):=⟨b1,hf.below b1 (Nat.le_refl _),ω⟩;have htot:c.size+1≤1000000001:=ω
 obtain⟨BO,ht⟩:=Mem.QD (c.size+1);rw[ht]at htot HM⊢;clear ih hf b1 hbig;go_enter Tryz.func25,Tryz.ntmps25;go_wp2
 go_loopg [3,4] (c.size+1) (fun p s3 s4 wr=>∃(m:Nat)(A:Option Addr)(n C:Nat)(f:F),f.size<p∧f.size≤N∧m≤BO∧s3=ι γ (m:Int)∧s4=ς A n C∧Hid (bz w wr A n C f m BO))
 case atStart=>exact⟨1,A,n,C,c,ω,hN,ω,rfl,rfl,HM.out⟩
 case round =>
  clear HM hN ht;obtain⟨m,A,n,C,f,hsz,hN,hm,rfl,rfl,HM⟩:=hrel;cases Rj:f with
  |nil =>
   rw[Rj]at HM;obtain⟨A0,C0,e,_,_⟩:=HM.out.fs.slice;injection e with e1 e2 e3;simp only[F.len]at e2;subst e2;have HE:Hid (m=BO):=by show m=BO;have:=HM.out.eq;simpa[F.size]using this
   clear e1 e3 Rj;go_wp2;go_ret;exact⟨by rw[←HE.out];rfl,HM.out.QF⟩
  |cons k1 x1 y1 c1 r1 =>
   rw[Rj]at HM hsz hN;obtain⟨b,off,s1,rfl,FK,hn0,hat⟩:=HM.out.fs.at_ (i:=0) rfl;obtain⟨A1,C1,rfl,Lg,mU⟩:=hat.kids.slice;have Px:=Lib.hid hat;obtain⟨qc,Ld,RS,hrl,hr⟩:=HM.out.fs.tail;obtain⟨A',n',C',hsl,en,eC,hA'⟩:=Ju b off n C qc Ld;have hr2:=hr A' hA';rw[←en,←eC]at hr2;rw[←en]at hrl;have XQ:=Lib.hid hr2;have NQ:=Lib.hid hrl;have mG:(0:Int)<(n:Int):=ω
   have heq:=HM.out.eq;simp only[F.size]at heq hsz hN;have LN:Hid (b<w.heap.size):=FK;have FT:C'≤9223372036854775807:=ω
   have hn':n'≤1000000001:=by have:=F.QL r1;omega
   clear Rj hat hr hr2 hrl hA' en eC FK;go_wp2
   go_loopw [3,21] (fun s3 i wr2=>∃(j m2:Nat),j≤n'∧i=ι γ (j:Int)∧s3=ι γ (m2:Int)∧m2≤BO∧Hid (m2+(r1.drop j).size=m+1+r1.size)∧Hid (Below wr.heap.size wr wr2)) (fun _ i _=>n'-(intOf i).toNat)
   case atStart=>exact⟨0,m+1,Nat.zero_le _,rfl,by go_num,ω,rfl,Below.refl _ _⟩
   case round =>
    obtain⟨j,m2,hj,rfl,rfl,hm2,KL,ZT⟩:=hrel;have SR:=HM.out.QF.trans (ZT.out.mono HM.out.QF.size);by_cases hlt:j<n'
    ·obtain⟨kk,kx,ky,kc,kr,hdr,YZ⟩:=F.drop_cons (n:=j) (f:=r1) (by rw[NQ.out];exact hlt);obtain⟨b2,UW,s2,rfl,PO,_,VA⟩:=XQ.out.at_ hdr;obtain⟨Ak,Ck,rfl,_,_⟩:=VA.kids.slice;have hb2:b2<wr.heap.size:=VE PO SR.size;have PN:=VE PO HM.out.QF.size;have e0:=(ZT.out.cell (p:=⟨b2,UW+j*4,none⟩) PN).trans VA.c0;have e1:=(ZT.out.cell (p:=⟨b2,UW+j*4+1,none⟩) PN).trans VA.c1;have e2:=(ZT.out.cell (p:=⟨b2,UW+j*4+2,none⟩) PN).trans VA.c2;have e3:=(ZT.out.cell (p:=⟨b2,UW+j*4+3,none⟩) PN).trans VA.c3;have hlt':(j:Int)<(n':Int):=ω
     have Mf:(0:Int)≤(j:Int):=ω
     have LU:=Ge hdr;have bk:=Qa wr (θ #[ι γ kk,σ kx,σ ky,ς Ak kc.len Ck] 24);have hb3:=SR.trans (bk.mono SR.size);have SX:m2+(kc.size+kr.size+1)=m+1+r1.size:=by have:=KL.out;rw[hdr]at this;simpa[F.size]using this
     have HC:=Lib.hid (Sm.out kc.size ω kk kx ky Ak kc.len Ck kc _ (Nat.le_refl _) ω (((VA.kids.below ZT.out HM.out.QF.size).below (bk.mono SR.size) (Nat.le_refl _)).up hb3.size));have uT:Hid (m2+(kc.size+1)+(r1.drop (j+1)).size=m+1+r1.size):=by show _=_;rw[YZ];omega
     have VG:=VO ZT bk;have Nt:m2+(kc.size+1)≤BO:=ω
     clear hdr YZ PO VA bk KL LU hb3;obtain⟨ks,hks⟩:=Mem.QD (kc.size+1);rw[hks]at HC uT Nt;clear SX hks;go_wp2_with fail;refine c₁ HC.out fun wk hbk=>?_;have KF:=VO VG hbk;clear hbk;go_wp2
     go_roundw
     case rel=>exact⟨j+1,m2+ks,ω,by go_num,by go_num,Nt,uT.out,KF.out⟩
     case measure=>simp[intOf];omega
    ·have Q2l:¬(j:Int)<(n':Int):=ω
     obtain rfl:j=n':=ω
     have SX:m2=m+1+r1.size:=by have:=KL.out;rw[F.JG _ _ (by rw[NQ.out];exact Nat.le_refl _)]at this;simpa[F.size]using this
     have hbl:b<wr.heap.size:=VE LN.out SR.size;obtain⟨q0,q1,q2,q3⟩:=â Px.out ZT.out (VE LN.out HM.out.QF.size);have SD:Hid (bz w wr A1 c1.len C1 c1 m2 BO):=⟨SR,Px.out.kids.below ZT.out HM.out.QF.size,ω⟩;clear KL SX heq;go_wp2
     go_roundg (c1.size+1)
     case measure=>omega
     case rel=>exact⟨m2,A1,c1.len,C1,c1,ω,ω,hm2,rfl,rfl,SD.out⟩
theorem ž(N:Nat):fO N:=by
 induction N using Nat.strongRecOn with
 |_ N ih=>exact Qn6 N ih
end Tree
namespace Mem
def pn(v:Value)(i:Nat):Value:=match v with
 | ς (some ⟨g,_,_⟩) _ _=>π (some ⟨g,i,none⟩)
 |_=>undef
structure GL(w0:World)(B:Nat)(C:Nat→Option Value)(D:Nat→Option (Value→Value))(iM iB iA iE iS:Nat)(R0:Bool→Value→List QC)(cs:Value→List Value)(RR:Bool→Bool→Value→Value→List QC)(L:Nat→Bool)(x:Nat→Value)(W:World):Prop where
 QF:Below B w0 W
 kc:∀i v,C i=some v→L i=true→x i=v
 kd:∀i f,D i=some f→L i=true→x i=f (x iA)∧L iA=true
 f0:L iA=false→QH W B (R0 (L iM) (x iM))
 fb:L iB=true→L iA=false→∃g c,x iB=ς (some ⟨g,0,none⟩) 1 c∧∀j u,(cs (x iM))[j]?=some u→W.cell? ⟨g,j,none⟩=some u
 f1:L iA=true→QH W B (RR (L iE) (L iS) (x iM) (x iA))
 dS:L iS=true→L iA=true
 dE:L iE=true→L iA=true
section
variable {w0 W W':World}{B:Nat}{C:Nat→Option Value}{D:Nat→Option (Value→Value)}{iM iB iA iE iS:Nat}{R:List QC}{R0:Bool→Value→List QC}{cs:Value→List Value}{RR:Bool→Bool→Value→Value→List QC}{L:Nat→Bool}{x:Nat→Value}{v:Value}
theorem GL.start(h:QH W B R)(hR:∀v,R0 false v=R):GL W B C D iM iB iA iE iS R0 cs RR (fun _=>false) x W.drew :=
 ⟨⟨rfl,rfl,rfl,Nat.le_refl _,fun _ _=>rfl⟩,fun _ _ _ h=>(by cases h),fun _ _ _ h=>(by cases h),fun _=>by rw[hR];exact h.YH ⟨rfl,rfl,rfl,Nat.le_refl _,fun _ _ _=>rfl⟩,fun h=>(by cases h),fun h=>(by cases h),fun h=>(by cases h),fun h=>(by cases h)⟩
theorem GL.Cc(h:GL w0 B C D iM iB iA iE iS R0 cs RR L x W){i:Nat}(hi:C i=none∨C i=some v):∀j u,C j=some u→Zh L i j=true→Qq x i v j=u:=fun j u hj hl=>by
 by_cases e:j=i
 ·subst e;rw[Ks];rcases hi with hi|hi
  ·rw[hi]at hj;cases hj
  ·exact Option.some.inj (hi.symm.trans hj)
 ·rw[Zf e];rw[Qr e]at hl;exact h.kc j u hj hl
theorem GL.jX(h:GL w0 B C D iM iB iA iE iS R0 cs RR L x W){i:Nat}(hA:iA≠i)(hi:D i=none∨∃f,D i=some f∧v=f (x iA)∧L iA=true):∀j f,D j=some f→Zh L i j=true→Qq x i v j=f (Qq x i v iA)∧Zh L i iA=true:=fun j f hj hl=>by
 rw[Zf hA,Qr hA];by_cases e:j=i
 ·subst e;rw[Ks];rcases hi with hi|⟨f',hf',e1,e2⟩
  ·rw[hi]at hj;cases hj
  ·rw[hj]at hf';injection hf' with hf';subst hf';exact⟨e1,e2⟩
 ·rw[Zf e];rw[Qr e]at hl;exact h.kd j f hj hl
theorem GL.quiet(h:GL w0 B C D iM iB iA iE iS R0 cs RR L x W)(hW:B≤W.heap.size)(hb:Below W.heap.size W W'){i:Nat}(hi:C i=none∨C i=some v)(hd:D i=none∨∃f,D i=some f∧v=f (x iA)∧L iA=true)(h0:iM≠i)(h1:iB≠i)(h2:iA≠i)(h3:iE≠i)(h4:iS≠i) :
 GL w0 B C D iM iB iA iE iS R0 cs RR (Zh L i) (Qq x i v) W':=by
 refine⟨h.QF.trans (hb.mono hW),h.Cc hi,h.jX h2 hd,?_,?_,?_,?_,?_⟩;all_goals simp only[Qr h0,Qr h1,Qr h2,Qr h3,Qr h4,Zf h0,Zf h1,Zf h2]
 ·exact fun a=>(h.f0 a).later hb
 ·exact c68
 ·exact fun a=>(h.f1 a).later hb
 ·exact h.dS
 ·exact h.dE
theorem GL.make(h:GL w0 B C D iM iB iA iE iS R0 cs RR L x W)(hC:C iM=none)(hD:D iM=none)(h1:iB≠iM)(h2:iA≠iM)(h3:iE≠iM)(h4:iS≠iM)(hB:L iB=false)(hA:L iA=false)(hb:Below B W W')(hf:QH W' B (R0 true v)) :
 GL w0 B C D iM iB iA iE iS R0 cs RR (Zh L iM) (Qq x iM v) W':=by
 refine⟨h.QF.trans hb,h.Cc (.inl hC),h.jX h2 (.inl hD),?_,?_,?_,?_,?_⟩;all_goals simp only[Qr h1,Qr h2,Qr h3,Qr h4,Zf h1,Zf h2,V8,Ks]
 ·exact fun _=>hf
 ·intro a;rw[hB]at a;cases a
 ·intro a;rw[hA]at a;cases a
 ·exact h.dS
 ·exact h.dE
theorem GL.build(h:GL w0 B C D iM iB iA iE iS R0 cs RR L x W)(hW:B≤W.heap.size)(hb:Below W.heap.size W W')(hC:C iB=none)(hD:D iB=none)(hM:iM≠iB)(hA:iA≠iB)(hE:iE≠iB)(hS:iS≠iB){g c:Nat}(hv:v=ς (some ⟨g,0,none⟩) 1 c)(hc:∀j u,(cs (x iM))[j]?=some u→W'.cell? ⟨g,j,none⟩=some u) :
 GL w0 B C D iM iB iA iE iS R0 cs RR (Zh L iB) (Qq x iB v) W':=by
 refine⟨h.QF.trans (hb.mono hW),h.Cc (.inl hC),h.jX hA (.inl hD),?_,?_,?_,?_,?_⟩;all_goals simp only[Qr hM,Qr hA,Qr hE,Qr hS,Zf hA,Zf hM,Ks]
 ·exact fun a=>(h.f0 a).later hb
 ·exact fun _ _=>⟨g,c,hv,hc⟩
 ·exact fun a=>(h.f1 a).later hb
 ·exact h.dS
 ·exact h.dE
theorem GL.app(h:GL w0 B C D iM iB iA iE iS R0 cs RR L x W)(hC:C iA=none)(hD:D iA=none)(hM:iM≠iA)(hE:iE≠iA)(hS:iS≠iA)(hL:L iA=false)(hb:Below B W W')(hf:QH W' B (RR false false (x iM) v)):GL w0 B C D iM iB iA iE iS R0 cs RR (Zh L iA) (Qq x iA v) W':=by
 have s0:L iS=false:=by cases e:L iS with|false=>rfl|true=>rw[h.dS e]at hL;cases hL
 have e0:L iE=false:=by cases e:L iE with|false=>rfl|true=>rw[h.dE e]at hL;cases hL
 refine⟨h.QF.trans hb,h.Cc (.inl hC),fun j f hj hl=>?_,fun a=>(by rw[V8]at a;cases a),fun _ a=>(by rw[V8]at a;cases a),fun _=>?_,fun _=>V8,fun _=>V8⟩
 ·by_cases e:j=iA
  ·subst e;rw[hD]at hj;cases hj
  ·rw[Qr e]at hl;have:=(h.kd j f hj hl).2;rw[hL]at this;cases this
 ·rw[Qr hE,Qr hS,Zf hM,Ks,s0,e0];exact hf
theorem GL.put(h:GL w0 B C D iM iB iA iE iS R0 cs RR L x W)(hC:C iE=none)(hD:D iE=none)(hM:iM≠iE)(hA:iA≠iE)(hS:iS≠iE)(hL:L iA=true)(hb:Below B W W')(hf:QH W' B (RR true (L iS) (x iM) (x iA))):GL w0 B C D iM iB iA iE iS R0 cs RR (Zh L iE) (Qq x iE v) W':=by
 refine⟨h.QF.trans hb,h.Cc (.inl hC),h.jX hA (.inl hD),fun a=>?_,fun _ a=>?_,fun _=>?_,fun _=>by rw[Qr hA];exact hL,fun _=>by rw[Qr hA];exact hL⟩
 ·rw[Qr hA,hL]at a;cases a
 ·rw[Qr hA,hL]at a;cases a
 ·rw[V8,Qr hS,Zf hM,Zf hA];exact hf
theorem GL.store(h:GL w0 B C D iM iB iA iE iS R0 cs RR L x W)(hC:C iS=none)(hD:D iS=none)(hM:iM≠iS)(hA:iA≠iS)(hE:iE≠iS)(hL:L iA=true)(hb:Below B W W')(hf:QH W' B (RR (L iE) true (x iM) (x iA))):GL w0 B C D iM iB iA iE iS R0 cs RR (Zh L iS) (Qq x iS v) W':=by
 refine⟨h.QF.trans hb,h.Cc (.inl hC),h.jX hA (.inl hD),fun a=>?_,fun _ a=>?_,fun _=>?_,fun _=>by rw[Qr hA];exact hL,fun _=>by rw[Qr hA];exact hL⟩
 ·rw[Qr hA,hL]at a;cases a
 ·rw[Qr hA,hL]at a;cases a
 ·rw[V8,Qr hE,Zf hM,Zf hA];exact hf
end
