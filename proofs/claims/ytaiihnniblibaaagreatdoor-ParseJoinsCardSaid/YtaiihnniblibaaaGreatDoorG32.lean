import Derived.Test.YtaiihnniblibaaaGreatDoorG31
set_option linter.unusedVariables false
open _root_.Nat renaming le_refl→QH
open _root_.List renaming append_assoc→KA
namespace Go.Proofs.YtaiihnniblibaaaGreatDoor
namespace JI
open Tree QB KL
section
variable {nm:ByteArray→Bool}{tk:ByteArray→Int→Bool}
def Zx(k:Int):Prop:=k≠1∧k≠8∧k≠15∧k≠33
def jG(nm:ByteArray→Bool)(tk:ByteArray→Int→Bool)(N:Nat):Prop:=∀k x y c it d,c.size≤N→Zx k→Zg nm tk k x y c it d=true→PB k x c
theorem J2{k:Int}{x:ByteArray}(h:Qg k x=true):Zx k:=by unfold Zx;rcases Xy h with rfl|rfl|rfl|rfl|rfl|rfl|rfl|rfl <;> decide
theorem Ys{k:Int}{x:ByteArray}(h:Qt k x=true):Zx k:=by unfold Zx;rcases Xz h with rfl|rfl|rfl|rfl|rfl <;> decide
theorem qx{N:Nat}(ih:∀M,M<N→jG nm tk M){p:Int→ByteArray→Bool}(hp:∀k x,p k x=true→Zx k){pk:Int}{px:ByteArray}{it:Bool}{d:Nat}:∀(r:F)(i:Nat),r.size≤N→K7 p r→Z4 nm tk pk px it d i r=true→qf r
 | .nil,_,_,_,_=>trivial
 | .cons k x y c r,i,hN,⟨ha,har⟩,hk=>by
  obtain⟨hn,hr⟩:=Qp hk;rw[Ga]at hN;exact⟨ih c.size (by omega) k x y c _ _ (QH _) (hp k x ha) hn,qx ih hp r (i+1) (by omega) har hr⟩
theorem qw{N:Nat}(ih:∀M,M<N→jG nm tk M){p:Int→ByteArray→Bool}(hp:∀k x,p k x=true→k=8∨Zx k){pk:Int}{px:ByteArray}{d:Nat}:∀(r:F)(i:Nat),r.size≤N→K7 p r→Z4 nm tk pk px true d i r=true→qd tk r
 | .nil,_,_,_,_=>trivial
 | .cons k x y c r,i,hN,⟨ha,har⟩,hk=>by
  obtain⟨hn,hr⟩:=Qp hk;rw[Ga]at hN;refine⟨?_,qw ih hp r (i+1) (by omega) har hr⟩;by_cases h8:k=8
  ·subst h8;exact .inl ⟨rfl,(Qd hn).2.1⟩
  ·have hs:Zx k:=by
    rcases hp k x ha with h|h
    ·exact absurd h h8
    ·exact h
   refine .inr ⟨h8,ih c.size (by omega) k x y c _ _ (QH _) hs hn,?_⟩;have ht:=(Qd hn).2.2.1;unfold Vj at ht;rw[Bool.or_eq_true,Bool.true_and,Bool.and_eq_true,beq_iff_eq]at ht;rcases ht with h|h
   ·exact .inl h
   ·exact .inr h.2
theorem na(T:KU nm tk){c:F}(h:qd tk c):Ph (Fq c (Ja c)) (ZG [123]::(Qs c (Qw c)++[ZG [125]])):=Qp6 (xG T c h)
theorem Q1c(T:KU nm tk):∀N,jG nm tk N:=by
 intro N
 induction N using Nat.strongRecOn with
 |_ N ih =>
  intro k x y c it d hN hk hn;obtain⟨hd,htx,htr,ZE,hks⟩:=Qd hn;have kid:∀(k0:Int)(x0 y0:ByteArray)(c0:F)(vB:Bool)(e:Nat),c0.size<N→Zx k0→Zg nm tk k0 x0 y0 c0 vB e=true→PB k0 x0 c0:=fun k0 x0 y0 c0 vB e hlt hs h=>ih c0.size hlt k0 x0 y0 c0 vB e (QH _) hs h
  have PV:k=2∨k=3∨k=4∨k=5∨k=6∨k=7∨k=9∨k=10∨k=11∨k=12∨k=13∨k=14∨k=16∨k=17∨k=18∨k=19∨k=20∨k=21∨k=22∨k=23∨k=24∨k=25∨k=26∨k=27∨k=28∨k=29∨k=30∨k=31∨k=32:=by
   unfold Zx at hk;refine Decidable.byContradiction fun hne=>?_
   unfold Q1 at ZE;repeat rw[if_neg (by omega)]at ZE
   cases ZE
  have XD:∀(p:Int→ByteArray→Bool),Qe (.one [p]::[]) c=true→(∀k x,p k x=true→Zx k)→∃k0 x0 y0 c0,c=.cons k0 x0 y0 c0 .nil∧PB k0 x0 c0∧p k0 x0=true∧c0.size<N∧Zg nm tk k0 x0 y0 c0 (holds k) (d+down k x 0 k0 x0)=true:=by intro p h hp;obtain⟨k0,x0,y0,c0,r0,rfl,hp0,VZ⟩:=Zi h;obtain rfl:=Kw VZ;obtain⟨hn0,_⟩:=Qp hks;simp only[F.size]at hN;exact⟨k0,x0,y0,c0,rfl,kid k0 x0 y0 c0 _ _ (by omega) (hp _ _ (Z0 hp0)) hn0,Z0 hp0,by omega,hn0⟩
  have two:∀(p q:Int→ByteArray→Bool),Qe (.one [p]::.one [q]::[]) c=true→(∀k x,p k x=true→Zx k)→(∀k x,q k x=true→Zx k)→∃k0 x0 y0 c0 k1 x1 y1 c1,c=.cons k0 x0 y0 c0 (.cons k1 x1 y1 c1 .nil)∧PB k0 x0 c0∧PB k1 x1 c1:=by intro p q h hp hq;obtain⟨k0,x0,y0,c0,r0,rfl,hp0,VZ⟩:=Zi h;obtain⟨k1,x1,y1,c1,r1,rfl,hp1,hr1⟩:=Zi VZ;obtain rfl:=Kw hr1;obtain⟨hn0,JL⟩:=Qp hks;obtain⟨JU,_⟩:=Qp JL;simp only[F.size]at hN;exact⟨k0,x0,y0,c0,k1,x1,y1,c1,rfl,kid k0 x0 y0 c0 _ _ (by omega) (hp _ _ (Z0 hp0)) hn0,kid k1 x1 y1 c1 _ _ (by omega) (hq _ _ (Z0 hp1)) JU⟩
  rcases PV with rfl|rfl|rfl|rfl|rfl|rfl|rfl|rfl|rfl|rfl|rfl|rfl|rfl|rfl|rfl|rfl|rfl|rfl|rfl|rfl|rfl|rfl|rfl|rfl|rfl|rfl|rfl|rfl|rfl
  ·exact Ep (by decide) (Ae T htx)
  ·exact Ep (by decide) (cJ T htx)
  ·obtain⟨k0,x0,y0,c0,rfl,h0,_⟩:=XD Qg ZE (fun k x=>J2);exact Ep (by decide) (qg T htx (lZ h0))
  ·
   have htx:nm x=true:=htx;have ZE:(Qe [.one [Qt,Qk [33]],.one [Qg,Qk [33]]] c && !Qe [.one [Qk [33]],.one [Qk [33]]] c)=true:=ZE;rw[Bool.and_eq_true]at ZE;obtain⟨k0,x0,y0,c0,r0,rfl,hp0,VZ⟩:=Zi ZE.1;obtain⟨k1,x1,y1,c1,r1,rfl,hp1,hr1⟩:=Zi VZ;obtain rfl:=Kw hr1;obtain⟨hn0,JL⟩:=Qp hks;obtain⟨JU,_⟩:=Qp JL;simp only[F.size]at hN;have e1:pp 5 x (.cons k0 x0 y0 c0 (.cons k1 x1 y1 c1 .nil))=pW [118,97,114]::pB::([(1,ZA x)]++((if k0=33 then[]else pB::pp k0 x0 c0)++(if k1=33 then[]else pB::pM [61]::pB::pp k1 x1 c1))):=rfl;have e2:sp 5 x (.cons k0 x0 y0 c0 (.cons k1 x1 y1 c1 .nil))=JP [118,97,114]::([XL x]++((if k0=33 then[]else sp k0 x0 c0)++(if k1=33 then[]else ZG [61]::sp k1 x1 c1))):=rfl;unfold PB;rw[e1,e2];refine Ep (by decide) ?_;rw[←KA,←KA];have hA:Ph ([(1,ZA x)]++(if k0=33 then[]else pB::pp k0 x0 c0)) ([XL x]++(if k0=33 then[]else sp k0 x0 c0)):=by
    rcases Ec hp0 with h|h
    ·rw[if_neg (Fj h),if_neg (Fj h)];exact Gb (Ae T htx) (kid k0 x0 y0 c0 _ _ (by omega) (Ys h) hn0)
    ·obtain rfl:=Vl h;rw[if_pos rfl,if_pos rfl,List.append_nil,List.append_nil];exact Ae T htx
   rcases Ec hp1 with h|h
   ·rw[if_neg (Fk h),if_neg (Fk h)];exact Gb hA (lZ (kid k1 x1 y1 c1 _ _ (by omega) (J2 h) JU))
   ·obtain rfl:=Vl h;rw[if_pos rfl,if_pos rfl,List.append_nil,List.append_nil];exact hA
  ·obtain⟨k0,x0,y0,c0,rfl,h0,_⟩:=XD Qt ZE (fun k x=>Ys);exact Ep (by decide) (qg T htx h0)
  ·
   have htx:nm x=true:=htx;obtain⟨k0,x0,y0,c0,r0,rfl,hp0,VZ⟩:=Zi (show Qe (.one [Qk [16],Qk [33]]::.one [Qk [15]]::.one [Qt,Qk [33]]::.one [Qk [17]]::[]) c=true from ZE);obtain⟨k1,x1,y1,c1,r1,rfl,hp1,hr1⟩:=Zi VZ;obtain⟨k2,x2,y2,c2,r2,rfl,hp2,hr2⟩:=Zi hr1;obtain⟨k3,x3,y3,c3,r3,rfl,Mg,hr3⟩:=Zi hr2;obtain rfl:=Kw hr3;obtain rfl:=Vl (Z0 hp1);obtain rfl:=Vl (Z0 Mg);obtain⟨hn0,JL⟩:=Qp hks;obtain⟨JU,PU⟩:=Qp JL;obtain⟨Ld,Dx⟩:=Qp PU;obtain⟨BQ,_⟩:=Qp Dx;obtain⟨_,_,_,TD,Dw⟩:=Qd JU;have hall:=Eb (show Qe [.many (Qk [16])] c1=true from TD);simp only[F.size]at hN;have e1:pp 7 x (.cons k0 x0 y0 c0 (.cons 15 x1 y1 c1 (.cons k2 x2 y2 c2 (.cons 17 x3 y3 c3 .nil))))=pW [102,117,110,99]::pB::((if k0=33 then[]else pM [40]::(pp k0 x0 c0++[pM [41],pB]))++(1,ZA x)::pM [40]::(V5 (Ja c1)++pM [41]::pB::((if k2=33 then[]else pp k2 x2 c2++[pB])++pp 17 x3 c3))):=rfl;have e2:sp 7 x (.cons k0 x0 y0 c0 (.cons 15 x1 y1 c1 (.cons k2 x2 y2 c2 (.cons 17 x3 y3 c3 .nil))))=JP [102,117,110,99]::((if k0=33 then[]else ZG [40]::(sp k0 x0 c0++[ZG [41]]))++XL x::ZG [40]::(Zs (Qw c1)++ZG [41]::((if k2=33 then[]else sp k2 x2 c2)++sp 17 x3 c3))):=rfl;unfold PB;rw[e1,e2];refine Ep (by decide) ?_;have h3:PB 17 x3 c3:=kid 17 x3 y3 c3 _ _ (by omega) (by unfold Zx;decide) BQ;have hA:Ph ((if k2=33 then[]else pp k2 x2 c2++[pB])++pp 17 x3 c3) ((if k2=33 then[]else sp k2 x2 c2)++sp 17 x3 c3):=by
    rcases Ec hp2 with h|h
    ·rw[if_neg (Fj h),if_neg (Fj h),KA];exact Gb (kid k2 x2 y2 c2 _ _ (by omega) (Ys h) Ld) h3
    ·obtain rfl:=Vl h;rw[if_pos rfl,if_pos rfl];exact h3
   have hB:Ph (V5 (Ja c1)++pM [41]::pB::((if k2=33 then[]else pp k2 x2 c2++[pB])++pp 17 x3 c3)) (Zs (Qw c1)++ZG [41]::((if k2=33 then[]else sp k2 x2 c2)++sp 17 x3 c3)):=by
    have hs:=jP (a:=41) (by decide) hA;cases c1 with
    |nil=>exact hs
    |cons kp xp yp cp rp=>have hrow:qf (.cons kp xp yp cp rp):=qx (N:=N) ih (fun k x h=>by obtain rfl:=Vl h;unfold Zx;decide) _ 0 (by omega) hall Dw;exact Gu (zz kp xp yp cp rp hrow) (Td (by decide) _) hs
   have hC:=Q2l T htx (Td (a:=40) (by decide) _) (NI (a:=40) (by decide) hB);rcases Ec hp0 with h|h
   ·obtain rfl:=Vl h;rw[if_neg (show ¬(16:Int)=33 by decide),if_neg (show ¬(16:Int)=33 by decide)];have h0:PB 16 x0 c0:=kid 16 x0 y0 c0 _ _ (by omega) (by unfold Zx;decide) hn0;have:=NI (a:=40) (by decide) (Gu h0 (Td (a:=41) (by decide) _) (jP (a:=41) (by decide) hC));simpa using this
   ·obtain rfl:=Vl h;rw[if_pos rfl,if_pos rfl];exact hC
  ·exact Ae T htx
  ·obtain⟨k0,x0,y0,c0,rfl,h0,hp,_,hn0⟩:=XD Qt ZE (fun k x=>Ys);obtain⟨a,r,e,ha⟩:=Qph T.toTxtOk hp hn0;have:=cI (c:=42) (x:=ba [42]) (by unfold ZA;rw[Yp];rfl) (by decide) rfl (fun z d r' e'=>by rw[e]at e';injection e' with e' _;rw[←e'];exact ha) h0;have e3:ZA (ba [42])=bl [42]:=by unfold ZA;rw[Yp];rfl
   rw[e3]at this;exact this
  ·obtain⟨k0,x0,y0,c0,rfl,h0,_⟩:=XD Qt ZE (fun k x=>Ys);exact NI (by decide) (NI (by decide) h0)
  ·obtain⟨k0,x0,y0,c0,k1,x1,y1,c1,rfl,h0,h1⟩:=two Qt Qt ZE (fun k x=>Ys) (fun k x=>Ys);exact Q27 (by decide) (Td (by decide) _) (NI (by decide) (Gu h0 (Td (by decide) _) (NI (by decide) h1)))
  ·exact Ep (by decide) (na T (qw (N:=N) ih (fun k x h=>by rcases Bb h with rfl|rfl <;> simp[Zx]) c 0 hN (Eb (show Qe [.many (Qk [14,8])] c=true from ZE)) hks))
  ·obtain⟨k0,x0,y0,c0,rfl,h0,_⟩:=XD Qt ZE (fun k x=>Ys);exact qg T htx h0
  ·obtain⟨k0,x0,y0,c0,rfl,h0,_⟩:=XD Qt ZE (fun k x=>Ys);exact qg T htx h0
  ·exact na T (qw (N:=N) ih (fun k x h=>by rcases Ex h with rfl|rfl|rfl|rfl|rfl|rfl|rfl|rfl|rfl|rfl|rfl <;> simp[Zx]) c 0 hN (Eb (show Qe [.many Js] c=true from ZE)) hks)
  ·
   obtain⟨k0,x0,y0,c0,r0,rfl,hp0,VZ⟩:=Zi (show Qe (.one [Qg]::.one [Qk [17]]::.one [Qk [17,18],Qk [33]]::[]) c=true from ZE);obtain⟨k1,x1,y1,c1,r1,rfl,hp1,hr1⟩:=Zi VZ;obtain⟨k2,x2,y2,c2,r2,rfl,hp2,hr2⟩:=Zi hr1;obtain rfl:=Kw hr2;obtain rfl:=Vl (Z0 hp1);obtain⟨hn0,JL⟩:=Qp hks;obtain⟨JU,PU⟩:=Qp JL;obtain⟨Ld,_⟩:=Qp PU;simp only[F.size]at hN;have e1:pp 18 x (.cons k0 x0 y0 c0 (.cons 17 x1 y1 c1 (.cons k2 x2 y2 c2 .nil)))=pW [105,102]::pB::(pp k0 x0 c0++pB::(pp 17 x1 c1++(if k2=33 then[]else pB::pW [101,108,115,101]::pB::pp k2 x2 c2))):=rfl;have e2:sp 18 x (.cons k0 x0 y0 c0 (.cons 17 x1 y1 c1 (.cons k2 x2 y2 c2 .nil)))=JP [105,102]::(sp k0 x0 c0++(sp 17 x1 c1++(if k2=33 then[]else JP [101,108,115,101]::sp k2 x2 c2))):=by show JP [105,102]::(sp k0 x0 c0++sp 17 x1 c1++(if k2=33 then[]else JP [101,108,115,101]::sp k2 x2 c2))=_;rw[KA]
   unfold PB;rw[e1,e2];have h1:PB 17 x1 c1:=kid 17 x1 y1 c1 _ _ (by omega) (by unfold Zx;decide) JU;refine Ep (by decide) (Gb (kid k0 x0 y0 c0 _ _ (by omega) (J2 (Z0 hp0)) hn0) ?_);rcases Ec hp2 with h|h
   ·have hst:Zx k2:=by rcases Bb h with rfl|rfl <;> simp[Zx]
    rw[if_neg hst.2.2.2,if_neg hst.2.2.2];exact Gb h1 (Ep (by decide) (kid k2 x2 y2 c2 _ _ (by omega) hst Ld))
   ·obtain rfl:=Vl h;rw[if_pos rfl,if_pos rfl,List.append_nil,List.append_nil];exact h1
  ·
   obtain⟨k0,x0,y0,c0,r0,rfl,hp0,VZ⟩:=Zi (show Qe (.one [Qg,Qk [33]]::.one [Qk [17]]::[]) c=true from ZE);obtain⟨k1,x1,y1,c1,r1,rfl,hp1,hr1⟩:=Zi VZ;obtain rfl:=Kw hr1;obtain rfl:=Vl (Z0 hp1);obtain⟨hn0,JL⟩:=Qp hks;obtain⟨JU,_⟩:=Qp JL;simp only[F.size]at hN;have e1:pp 19 x (.cons k0 x0 y0 c0 (.cons 17 x1 y1 c1 .nil))=pW [102,111,114]::pB::((if k0=33 then[]else pp k0 x0 c0++[pB])++pp 17 x1 c1):=rfl;have e2:sp 19 x (.cons k0 x0 y0 c0 (.cons 17 x1 y1 c1 .nil))=JP [102,111,114]::((if k0=33 then[]else sp k0 x0 c0)++sp 17 x1 c1):=rfl;unfold PB;rw[e1,e2];have h1:PB 17 x1 c1:=kid 17 x1 y1 c1 _ _ (by omega) (by unfold Zx;decide) JU;refine Ep (by decide) ?_;rcases Ec hp0 with h|h
   ·rw[if_neg (Fk h),if_neg (Fk h),KA];exact Gb (kid k0 x0 y0 c0 _ _ (by omega) (J2 h) hn0) h1
   ·obtain rfl:=Vl h;rw[if_pos rfl,if_pos rfl];exact h1
  ·
   have hall:=Eb (show Qe [.many Qg] c=true from ZE);cases c with
   |nil=>exact jR (by decide)
   |cons k0 x0 y0 c0 r0=>exact Ep (by decide) (zz k0 x0 y0 c0 r0 (qx (N:=N) ih (fun k x=>J2) _ 0 hN hall hks))
  ·
   have hop:=aT (x:=x) htx;have hb:(if x.toList==[58,61]then Qe [.one [Qk [9]],.one [Qg]] c else Qe [.one [Zv],.one [Qg]] c)=true:=ZE;split at hb
   ·obtain⟨k0,x0,y0,c0,k1,x1,y1,c1,rfl,h0,h1⟩:=two _ _ hb (fun k x h=>by obtain rfl:=Vl h;unfold Zx;decide) (fun k x=>J2);exact Gb h0 (jQ hop h1)
   ·obtain⟨k0,x0,y0,c0,k1,x1,y1,c1,rfl,h0,h1⟩:=two _ _ hb (fun k x h=>J2 (Gi h)) (fun k x=>J2);exact Gb h0 (jQ hop h1)
  ·
   obtain⟨k0,x0,y0,c0,rfl,h0,_⟩:=XD Zv ZE (fun k x h=>J2 (Gi h));have htx:(x.toList==[43,43]||x.toList==[45,45])=true:=htx;rw[Bool.or_eq_true,beq_iff_eq,beq_iff_eq]at htx;have key:∀u∈([[43,43],[45,45]]:List (List UInt8)),bl u∈Lex.Vw∧Lex.closes 4 (bl u)=true∧(∀b∈u,b.toNat<128)∧Lex.Ka ((bl u).getD 0 0)=false:=by decide
   have hm:x.toList∈([[43,43],[45,45]]:List (List UInt8)):=by rcases htx with h|h <;> (rw[h];decide)
   obtain⟨hm2,hcl,TN,hlo⟩:=key _ hm;have e3:ZA x=bl x.toList:=rfl;rw[←e3]at hm2 hcl hlo;obtain⟨a,b,hab⟩:∃a b,ZA x=[a,b]:=by
    have hl:=(gD _ hm2).1
    match ZA x,hl with
    |[a,b],_=>exact⟨a,b,rfl⟩
   have h1:Ph [(4,ZA x)] [KM x]:=by have:=Fl (k:=4) (t:=ZA x) (.inr (.inr (.inr rfl))) hcl (fun z qs e hz hq=>by rw[hab]at hm2⊢;exact rD hm2 hq) (by rw[e3];exact U5 TN);rw[Vd]at this;exact this
   exact Gu h0 (fun z=>by
    show Nx ((ZA x++[])++z);rw[hab]at hlo⊢;exact Uw (by simpa using hlo)) h1
  ·obtain⟨k0,x0,y0,c0,rfl,h0,_⟩:=XD _ ZE (fun k x h=>by obtain rfl:=Vl h;unfold Zx;decide);exact h0
  ·exact jR (by decide)
  ·exact jR (by decide)
  ·exact Q26 T htx
  ·exact cJ T htx
  ·
   obtain⟨k0,x0,y0,c0,rfl,h0,hp,hlt,hn0⟩:=XD Qg ZE (fun k x=>J2);obtain⟨q,hq,hq1,hq2⟩:=tA (x:=x) htx;have hf:holds 28=false:=rfl;rw[hf]at hn0;obtain⟨a,r,e,ha⟩:=Qq3 T.toTxtOk c0.size k0 x0 y0 c0 _ (QH _) hp hn0;refine cI hq hq1 hq2 (fun z d r' e'=>?_) (FC (b:=Qi 28 x 0 k0 x0) h0);have IP:Qi 28 x 0 k0 x0=low k0:=rfl;have e':Lex.cat (if Qi 28 x 0 k0 x0=true then pM [40]::(pp k0 x0 c0++[pM [41]])else pp k0 x0 c0)++z=d::r':=e';rw[IP]at e';cases hl:low k0 with
   |true=>rw[hl,if_pos rfl]at e';have e':(40:Int)::_=d::r':=e';injection e' with e' _;rw[←e'];unfold S2;omega
   |false=>rw[hl,if_neg (by decide),e]at e';injection e' with e' _;rw[←e'];exact ha hl
  ·
   obtain⟨k0,x0,y0,c0,k1,x1,y1,c1,rfl,h0,h1⟩:=two Qg Qg ZE (fun k x=>J2) (fun k x=>J2);have hlv:0<Ql x:=of_decide_eq_true (show decide (0<Ql x)=true from htx);exact Gb (FC h0) (jQ (Qqc hlv) (FC h1))
  ·
   obtain⟨k0,x0,y0,c0,r0,rfl,hp,VZ⟩:=Zi (show Qe (.one [Qg]::.many Qg::[]) c=true from ZE);have hall:=Eb VZ;obtain⟨hn0,JL⟩:=Qp hks;simp only[Ga]at hN;have h0:PB k0 x0 c0:=kid k0 x0 y0 c0 _ _ (by omega) (J2 (Z0 hp)) hn0;refine Gu (FC (b:=Qi 30 x 0 k0 x0) h0) (Td (by decide) _) (NI (by decide) ?_);cases r0 with
   |nil=>exact AL (by decide)
   |cons k1 x1 y1 c1 r1=>exact Gu (zz k1 x1 y1 c1 r1 (qx (N:=N) ih (fun k x=>J2) _ 1 (by omega) hall JL)) (Td (by decide) _) (AL (by decide))
  ·obtain⟨k0,x0,y0,c0,k1,x1,y1,c1,rfl,h0,h1⟩:=two Qg Qg ZE (fun k x=>J2) (fun k x=>J2);exact Gu (FC (b:=Qi 31 x 0 k0 x0) h0) (Td (by decide) _) (NI (by decide) (Gu h1 (Td (by decide) _) (AL (by decide))))
  ·obtain⟨k0,x0,y0,c0,rfl,h0,_⟩:=XD Qg ZE (fun k x=>J2);exact Gu (FC (b:=Qi 32 x 0 k0 x0) h0) (Td (by decide) _) (NI (by decide) (Ae T htx))
def X9(c:F):List Int:=Lex.cat (K3 c (Ja c))
theorem Jr{x y:ByteArray}{c:F}(hr:Jt nm tk 1 x y c=true):Z4 nm tk 1 x true 0 0 c=true∧Qe [.many (Qk [8]),.one [Qk [2]],.many (Qk [3,8]),.many Jl] c=true:=by
 unfold Jt at hr;rw[show((1:Int)==1)=true from rfl,Bool.true_and]at hr;obtain⟨_,_,_,ZE,hks⟩:=Qd hr;exact⟨hks,ZE⟩
def NQ(k:Int)(_:ByteArray):Bool:=k==8||k==2||k==3||k==4||k==5||k==6||k==7
theorem Uj{p q:Int→ByteArray→Bool}(h:∀k x,p k x=true→q k x=true):∀{f:F},K7 p f→K7 q f
 | .nil,_=>trivial
 | .cons k x y c r,⟨a,b⟩=>⟨h k x a,Uj h b⟩
theorem kY{p:Int→ByteArray→Bool}:∀{a b:F},K7 p a→K7 p b→K7 p (Vi a b)
 | .nil,_,_,h=>h
 | .cons k x y c r,b,⟨h1,h2⟩,h=>⟨h1,kY h2 h⟩
theorem Kq{x y:ByteArray}{c:F}(hr:Jt nm tk 1 x y c=true):K7 NQ c:=by
 obtain⟨_,ZE⟩:=Jr hr;have ZE:Qe [.one [Qk [2]],.many (Qk [3,8]),.many Jl] (Kv (Qk [8]) c)=true:=ZE;obtain⟨a1,e1,ha1⟩:=Gn (Qk [8]) c;obtain⟨k,xp,yp,cp,r,e2,hp,hr2⟩:=Zi ZE;obtain rfl:=Vl (Z0 hp);have hr2:Qe [.many Jl] (Kv (Qk [3,8]) r)=true:=hr2;have DN:=Eb hr2;obtain⟨a2,e3,ha2⟩:=Gn (Qk [3,8]) r;rw[e1,e2,e3];refine kY (Uj (fun k x h=>by obtain rfl:=Vl h;rfl) ha1) ⟨rfl,kY (Uj (fun k x h=>by rcases Bb h with rfl|rfl <;> rfl) ha2) (Uj (fun k x h=>by rcases Jx h with rfl|rfl|rfl|rfl|rfl <;> rfl) DN)⟩
theorem Qvh{k:Int}{x:ByteArray}(h:NQ k x=true):k=8∨Zx k:=by
 unfold NQ at h;simp only[Bool.or_eq_true,beq_iff_eq]at h;unfold Zx;omega
theorem kO(T:KU nm tk){px:ByteArray}{c:F}{i:Nat}(ha:K7 NQ c)(hk:Z4 nm tk 1 px true 0 i c=true):It (K3 c (Ja c)) (Qs c (Qw c)) :=
 xG T c (qw (N:=c.size) (fun M _=>Q1c T M) (fun k x=>Qvh) c i (QH _) ha hk)
theorem kJ{E:Pc}{w:List Tk}(h:It E w):Lex.K6 (Lex.cat E)=0∧Ap [] w ((Lex.ZQ (Lex.cat E)).map Mu)∧ZZ (Lex.cat E):=by
 have ht:=h.ti [] [] [] ⟨rfl,rfl⟩;rw[List.append_nil,List.append_nil]at ht;obtain⟨k0,_,k1⟩:=Lex.pg h.tx.2 ht;refine⟨k0,?_,h.tx.1⟩;unfold Lex.Uz at k1;rw[if_pos k0]at k1;rw[k1];have:=lJ E 0 true (mQ ht);rw[h.fn]at this;exact this
theorem Qml(T:KU nm tk){x y:ByteArray}{c:F}(hr:Jt nm tk 1 x y c=true):ZZ (X9 c)∧X4 (X9 c)=.ok (AE c) []:=by
 obtain⟨h0,h1,h2⟩:=kJ (kO T (Kq hr) (Jr hr).1);exact⟨h2,tD h0 (ry (nV (z:=0) T.toTxtOk hr) h1)⟩
def Z6:F→F
 | .nil=>.nil
 | .cons k x y c r=>if k=2∨k=3 then Z6 r else .cons k x y c (Z6 r)
theorem zq{px:ByteArray}:∀(f:F)(i j:Nat),K7 NQ f→Z4 nm tk 1 px true 0 i f=true→K7 Jl (Z6 f)∧Z4 nm tk 1 px true 0 j (Z6 f)=true
 | .nil,_,_,_,_=>⟨trivial,rfl⟩
 | .cons k x y c r,i,j,⟨ha,har⟩,hk=>by
  obtain⟨hn,hr⟩:=Qp hk;unfold Z6;by_cases h:k=2∨k=3
  ·rw[if_pos h];exact zq r (i+1) j har hr
  ·rw[if_neg h];obtain⟨h1,h2⟩:=zq r (i+1) (j+1) har hr;have hd:Jl k x=true:=by
    unfold NQ at ha;simp only[Bool.or_eq_true,beq_iff_eq]at ha;have:k=4∨k=5∨k=6∨k=7∨k=8:=by omega
    rcases this with rfl|rfl|rfl|rfl|rfl <;> rfl
   refine⟨⟨hd,h1⟩,?_⟩;have e:down 1 px i k x=0:=by simp[down,Qi,more]
   have e':down 1 px j k x=0:=by simp[down,Qi,more]
   rw[e]at hn;rw[G0,e',hn,h2];rfl
theorem nR{f:F}(h:K7 Jl f):K7 NQ f:=Uj (fun k x h=>by rcases Jx h with rfl|rfl|rfl|rfl|rfl <;> rfl) h
theorem Qk0(T:TxtOk nm tk)(Mf:∀x,tk x 5=true→∃q,x.toList=47::47::q){px:ByteArray}{i:Nat}:∀{f:F},K7 Jl f→Z4 nm tk 1 px true 0 i f=true→NL (Qs f (Qw f))
 | .nil,_,_=>nJ
 | .cons k x y c r,⟨ha,_⟩,hk=>by
  obtain⟨hn,_⟩:=Qp hk;show NL (Jh k x y (sp k x c)++Qs r (Qw r));by_cases h8:k=8
  ·subst h8;obtain⟨q,e⟩:=Mf x (Qd hn).2.1;exact Qp3 e
  ·have hk4:k=4∨k=5∨k=6∨k=7:=by rcases Jx ha with h|h|h|h|h <;> omega
   obtain⟨w,e⟩:=xS (x:=x) (y:=y) (c:=c) (show X1 k by unfold X1;omega) (Qs r (Qw r));rw[e];refine Qm1 ?_;rcases hk4 with rfl|rfl|rfl|rfl <;> decide
theorem Qqu(T:KU nm tk)(Mf:∀x,tk x 5=true→∃q,x.toList=47::47::q){x y x' y':ByteArray}{c c':F}(hr:Jt nm tk 1 x y c=true)(hr':Jt nm tk 1 x' y' c'=true) :
  ZZ (X9 c++X9 (Z6 c'))∧X4 (X9 c++X9 (Z6 c'))=.ok (AE (Vi c (Z6 c'))) []:=by
 obtain⟨hd1,hd2⟩:=zq c' 0 0 (Kq hr') (Jr hr').1;have h1:=kO T (Kq hr) (Jr hr).1;have h2:=kO T (nR hd1) hd2;obtain⟨_,a1,_⟩:=kJ h1;obtain⟨k0,k1,k2⟩:=kJ (lL h1 h2);rw[V6]at k0 k1 k2;have hf:=ru (z':=0) (Qk0 T.toTxtOk Mf hd1 hd2) (nV (z:=0) T.toTxtOk hr) (oz a1 _) (mh T.toTxtOk hd1 hd2);exact⟨k2,tD k0 (ry hf k1)⟩
end
