import Derived.Test.YtmepekognmlblaaGreatDoorS37
set_option maxHeartbeats 16000000
set_option maxRecDepth 100000
set_option linter.unusedVariables false
open Go.Proofs.Tryz Go.ChangeShapes Go.WideShapes Go.ChangeAt Go.RowKit
open Go.Lib renaming hid→QA
open _root_.Nat renaming le_refl→QI,zero_le→ZR,lt_of_lt_of_le→VE,le_trans→QW,lt_succ_self→qA
open _root_.List renaming length_append→ZU,getElem?_eq_getElem→QN,mem_of_getElem?→JK,getElem?_map→VP,length_map→VD,getElem?_cons_zero→Ib,mem_cons→Tg,getElem?_append_right→GK,length_take→JS,append_nil→He
open Go.Value renaming string→σ,int→ι,slice→ς
open Go.IntKind renaming i64→γ
open Go.Obj renaming cells→θ
open Go.Ending renaming returned→ρ
namespace Go.Proofs.YtmepekognmlblaaGreatDoor
namespace Shape
open Mem Tree
theorem Qe4:∀(f:F)(j:Nat)(t:Nd),(Kt f)[j]?=some t→∃r,f.drop j=.cons t.k t.x t.y t.c r
 | .nil,j,t,h=>by simp[Kt]at h
 | .cons k x y c r,0,t,h=>by
   simp only[Kt,Ib,Option.some.injEq]at h;subst h;exact⟨r,rfl⟩
 | .cons k x y c r,j+1,t,h=>Qe4 r j t (by simpa[Kt]using h)
theorem ď{T:F}{p j:Nat}{n t:Nd}(hn:(nodes T)[p]?=some n)(ht:(Kt n.c)[j]?=some t):∃q,(places (p+1) n.c)[j]?=some q∧(nodes T)[q]?=some t∧p<q∧q<T.size:=by
 obtain⟨r,hr⟩:=Qe4 n.c j t ht;obtain⟨q,h1,h2,h3,h4⟩:=Qbt n.c (p+1) j _ _ _ _ _ hr;have hs:=Jv T p n hn;have hlt:q-(p+1)<n.c.size:=by have:=(List.getElem?_eq_some_iff.1 h3).1;rwa[Qj]at this
 refine⟨q,h1,?_,ω,ω⟩;have:=hs.2 (q-(p+1)) hlt;rw[show p+1+(q-(p+1))=q by omega]at this;rw[this,h3]
theorem Qod{w3:World}{g B0:Nat}(hg:w3.heap[g]?=some (θ #[ς none 0 0,ς none 0 0,ς none 0 0,ς none 0 0] 59 (0,0)))(hg2:w3.heap.size=g+1)(hB:B0≤g):PS w3 g (Lo B0) [] g [] [] [] []:=by
 have ho:w3.ownsRow 0 59 4 (ς (some ⟨g,0,none⟩) 1 1) 1 [ς none 0 0,ς none 0 0,ς none 0 0,ς none 0 0] :=
  ⟨rfl,.inr ⟨g,1,#[ς none 0 0,ς none 0 0,ς none 0 0,ς none 0 0],rfl,ZR _,hg,QI _,by unfold maxLen;omega,rfl,rfl⟩⟩
 have h0:QH w3 g [Kf 59 g [ς none 0 0,ς none 0 0,ς none 0 0,ς none 0 0]]:=⟨fun t ht=>by rw[List.mem_singleton.1 ht];exact ho,fun t ht k hk=>by
  rw[List.mem_singleton.1 ht]at hk;have hk:some g=some k:=hk;injection hk with hk;omega,List.pairwise_singleton _ _,ω⟩
 have h1:=(((h0.VQ (e:=24) (sz:=4)).VQ (e:=3) (sz:=1)).VQ (e:=3) (sz:=1)).VQ (e:=32) (sz:=1);exact⟨⟨ς none 0 0,ς none 0 0,ς none 0 0,ς none 0 0,[],[],h1,rfl,fun p hp=>(by cases hp),rfl⟩,fun b hb=>.inl (Nat.lt_of_lt_of_le hb hB)⟩
structure Tj(w:World)(bm nb:Nat)(QG:List Nd)(T:F)(v:Value)(w':World)(Tk:List (List UInt8))(JA:List Nd)(Ms:List Nat):Prop where
 grown:w.grownBy w' (some bm)
 map:∃D Hu,JX w' bm Hu D∧KM D Tk∧Hu≤nb+T.size
 NC:KG Tk JA
 pre:QG <+: JA
 few:JA.length≤QG.length+T.size
 row:w'.ownsRow w.heap.size 3 1 v Ms.length (Ms.map nv)
 len:Ms.length=T.size
 is:∀(p:Nat)(nd:Nd),(nodes T)[p]?=some nd→∃m,Ms[p]?=some m∧JA[m]?=some nd
theorem Gd:∀(f:F),Zp f→∀nd∈nodes f,nd.x.size≤1000000∧nd.y.size≤1000000
 | .nil,_,nd,h=>by cases h
 | .cons k x y c r,hs,nd,h=>by
   simp only[nodes,Tg,List.mem_append]at h;obtain⟨h1,h2,h3,h4⟩:=hs;rcases h with rfl|h|h
   ·exact⟨by simp only;omega,by simp only;omega⟩
   ·exact Gd c h3 nd h
   ·exact Gd r h4 nd h
theorem Gq:∀(f:F),Vf f→∀nd∈nodes f,Hg nd.k
 | .nil,_,nd,h=>by cases h
 | .cons k x y c r,hs,nd,h=>by
   simp only[nodes,Tg,List.mem_append]at h;obtain⟨h1,h2,h3⟩:=hs;rcases h with rfl|h|h
   ·exact h1
   ·exact Gq c h2 nd h
   ·exact Gq r h3 nd h
theorem Qoe{w w':World}{bm n:Nat}{D:Dm}(h:Pow w)(hm:JX w bm n D)(hg:w.grownBy w' (some bm)):Pow w':=by
 obtain⟨es,clock,hb,_⟩:=hm;unfold Pow Lib.TabIs World.var? at *
 cases hgl:(prog).globalNamed "internal/strconv.uint64pow10" with
 |none=>simp[hgl]at h
 |some g =>
  simp only[hgl,Option.bind_some]at h⊢;have hlt:g<w.heap.size:=by
   rcases Nat.lt_or_ge g w.heap.size with h' |h'
   ·exact h'
   ·rw[Array.getElem?_eq_none h']at h;simp at h
  have hne:g≠bm:=fun e=>by
   subst e;rw[hb]at h;simp at h
  rw[hg.block g hlt (fun e=>hne (Option.some.inj e))];exact h
theorem Qk3{w w':World}{bm n B:Nat}{D:Dm}(h:Pow w)(hm:JX w bm n D)(hg:w.grownBy w' (some bm))(hB:w.heap.size≤B):OC B w':=fun w'' hb=>Qoe h hm (Gt hg hB hb)
theorem ķ:∀l:List Nat,(∀m∈l,m<10000000)→(ND l).length≤22*l.length
 |[],_=>QI _
 |a::l,h=>by
  have ih:=ķ l fun m hm=>h m (List.mem_cons_of_mem _ hm)
  have ha:=h a List.mem_cons_self;have h1:=Lib.itoa_length_le (a:Int) ω ω;show(V3 (a:Int)++ND l).length≤_;unfold V3;simp only[ZU,List.length_cons,List.length_nil];omega
structure MI(w:World)(B bm nb:Nat)(UK L:List Nd)(N e:Nat)(wv mv:Value)(qB:List QC)(wl:List UInt8)(mc:List Value)(D:Dm)(KS:List (List UInt8))(QG:List Nd)(W:World):Prop where
 GD:QH W B (Qb 5 1 wv wl.length (Lib.byteCells wl)::Qb 3 1 mv N mc::qB)
 map:∃Hu,JX W bm Hu D∧Hu≤nb+(N-e)
 km:KM D KS
 NC:KG KS QG
 pre:UK <+: QG
 few:QG.length≤UK.length+(N-e)
 len:mc.length=N
 is:∀(p:Nat)(nd:Nd),e≤p→L[p]?=some nd→∃m,mc[p]?=some (nv m)∧QG[m]?=some nd
 grown:w.grownBy W (some bm)
theorem KG.AF{KS:List (List UInt8)}{QG:List Nd}(h:KG KS QG):KS.Nodup:=by
 unfold List.Nodup;rw[List.pairwise_iff_getElem];intro i j hi hj hij e;have h1:KS[i]?=some (KS[i]'hi):=QN hi;have h2:KS[j]?=some (KS[i]'hi):=by rw[e];exact QN hj
 have:=h.inj h1 h2;omega
theorem Qxh{n:Nat}(h:n≤1000000000):(Lit.int γ (n:Int)).wf=true:=by
 simp[Lit.wf];exact⟨by rw[show IntKind.i64.min = -9223372036854775808 from rfl];omega,ω⟩
theorem đ:∀(l:List Value),(∀p,p<l.length→∃m,l[p]?=some (nv m))→∃Ms:List Nat,l=Ms.map nv
 |[],_=>⟨[],rfl⟩
 |v::l,h=>by
  obtain⟨m,hm⟩:=h 0 ψ
  obtain⟨Ms,hMs⟩:=đ l fun p hp=>by
   have:=h (p+1) (by simpa using hp);simpa using this
  simp only[Ib,Option.some.injEq]at hm;exact⟨m::Ms,by rw[hm,hMs];rfl⟩
theorem Qyf{w W:World}{bm nb:Nat}{UK:List Nd}{T:F}{N:Nat}{wv mv:Value}{qB:List QC}{wl:List UInt8}{mc:List Value}{D:Dm}{KS:List (List UInt8)}{QG:List Nd}(h:MI w (w.heap.size+1) bm nb UK (nodes T) N 0 wv mv qB wl mc D KS QG W)(hN:T.size=N) :
 ∃v Tk JA Ms,ρ mv=ρ v∧Tj w bm nb UK T v W Tk JA Ms:=by
 subst hN
 obtain⟨Ms,rfl⟩:=đ mc fun p hp=>by
  rw[h.len]at hp;obtain⟨nd,hnd⟩:∃nd,(nodes T)[p]?=some nd:=⟨_,QN (by rw[Qj];exact hp)⟩;obtain⟨m,hm,_⟩:=h.is p nd (ZR _) hnd;exact⟨m,hm⟩
 have hl:Ms.length=T.size:=by have:=h.len;rwa[VD]at this
 obtain⟨Hu,h1,h2⟩:=h.map;refine⟨mv,KS,QG,Ms,rfl,h.grown,⟨D,Hu,h1,h.km,h2⟩,h.NC,h.pre,h.few,?_,hl,fun p nd hnd=>?_⟩
 ·rw[hl];exact Þ (h.GD.get (i:=1) rfl) fun k hk=>by have:=h.GD.ge _ (JK (i:=1) rfl) k hk;omega
 ·obtain⟨m,h3,h4⟩:=h.is p nd (ZR _) hnd;rw[VP]at h3;cases hp:Ms[p]? with
  |none=>rw[hp]at h3;cases h3
  |some q =>
   rw[hp]at h3;have h3:nv q=nv m:=Option.some.inj h3;have:q=m:=by injection h3 with _ h3;omega
   subst this;exact⟨q,rfl,h4⟩
theorem ē{w W W':World}{B bm nb:Nat}{UK L:List Nd}{N p i:Nat}{wv mv T5:Value}{qB:List QC}{wl tu:List UInt8}{mc:List Value}{D D':Dm}{KS Tk:List (List UInt8)}{QG JA:List Nd}{nd:Nd}(h:MI w B bm nb UK L N (p+1) wv mv qB wl mc D KS QG W)(hp:p<N)
 (hf:QH W' B (Qb 5 1 T5 tu.length (Lib.byteCells tu)::Qb 3 1 mv N (mc.set p (nv i))::qB)) (hm:∃Hu,JX W' bm Hu D'∧Hu≤nb+(N-p)) (hk:KM D' Tk) (hd:KG Tk JA) (hpre:QG <+: JA) (Q24:JA.length≤QG.length+1)
 (hnd:L[p]?=some nd) (hi:JA[i]?=some nd) (hg:w.grownBy W' (some bm)):MI w B bm nb UK L N p T5 mv qB tu (mc.set p (nv i)) D' Tk JA W':=by
 refine⟨hf,hm,hk,hd,h.pre.trans hpre,by have:=h.few;omega,by rw[List.length_set];exact h.len,fun q tY hq hnd'=>?_,hg⟩;by_cases e:p=q
 ·subst e;rw[hnd]at hnd';injection hnd' with hnd';subst hnd';exact⟨i,by rw[List.getElem?_set_self (by rw[h.len];exact hp)],hi⟩
 ·obtain⟨m,h1,h2⟩:=h.is q tY ω hnd';exact⟨m,by rw[List.getElem?_set_ne e];exact h1,pM hpre h2⟩
theorem Qix(k:Int)(x y:ByteArray)(A:Option Addr)(n C:Nat)(c:F)(w:World)(bm nb:Nat)(D:Dm)(KS:List (List UInt8))(QG:List Nd)(hf:Fs w (Lo w.heap.size) (ς A n C) c)(hc:c.size≤45000)(hs:Zp (one k x y c))(hk:Vf (one k x y c))
 (hm:JX w bm nb D) (Dd:KM D KS) (hd:KG KS QG) (hnb:nb≤1000000) (xC:QG.length≤1000000) (hP:Pow w) :
 Calls prog 58 #[.agg #[.int γ k,.string x,.string y,ς A n C],.map (some bm)] w fun e w'=>∃v Tk JA Ms,e=ρ v∧Tj w bm nb QG (one k x y c) v w' Tk JA Ms:=by
 obtain⟨i0,hi0,hz0,hz1,hz2⟩:=info_parts Zq;have Br:bm<w.heap.size:=World.ownsMap.lt hm;have b1:=Qa w (θ #[.int γ k,.string x,.string y,ς A n C] 24);have b2:=Qa (w.alloc (θ #[.int γ k,.string x,.string y,ς A n C] 24)) (θ #[ς none 0 0,ς none 0 0,ς none 0 0,ς none 0 0] 59);have UC:=b1.trans (b2.mono b1.size);have hg:((w.alloc (θ #[.int γ k,.string x,.string y,ς A n C] 24)).alloc (θ #[ς none 0 0,ς none 0 0,ς none 0 0,ς none 0 0] 59)).heap[w.heap.size+1]?=some (θ #[ς none 0 0,ς none 0 0,ς none 0 0,ς none 0 0] 59 (0,0)):=bI w _ _;have hsz:((w.alloc (θ #[.int γ k,.string x,.string y,ς A n C] 24)).alloc (θ #[ς none 0 0,ς none 0 0,ς none 0 0,ς none 0 0] 59)).heap.size=w.heap.size+1+1:=ψ
 have hq:=fL w k x y (ς A n C) (W:=(w.alloc (θ #[.int γ k,.string x,.string y,ς A n C] 24)).alloc (θ #[ς none 0 0,ς none 0 0,ς none 0 0,ς none 0 0] 59)) b2;obtain⟨w3,hw3⟩:∃w3,(w.alloc (θ #[.int γ k,.string x,.string y,ς A n C] 24)).alloc (θ #[ς none 0 0,ς none 0 0,ς none 0 0,ς none 0 0] 59)=w3:=⟨_,rfl⟩;rw[hw3]at UC hg hsz hq;obtain⟨q0,q1,q2,q3⟩:=hq;have hps:=Qod (B0:=w.heap.size) hg hsz (Nat.le_succ _);have HAD:=QA (pS c.size k x y A n C c (-1) w3 (w.heap.size+1) (Lo w.heap.size) [] (w.heap.size+1) [] [] [] [] (QI _) (hf.below UC (QI _)) hps rfl rfl rfl (by simp only[List.length_nil];omega) ω ω);have VG:=QA UC;have SC:=QA (hm.kept (UC.block _ Br));have jh:=QA Dd;have uW:=QA hd;have qW:=QA hnb;have HDL:=QA xC;have OP:Hid (∀W,w.grownBy W (some bm)→OC (w.heap.size+1) W):=fun W hW=>Qk3 hP hm hW (Nat.le_succ _)
 have Tq:=QA (Gd _ hs);have OW:=QA (Gq _ hk);have Mc:=QA Br;have hT:(one k x y c).size=c.size+1:=Q4 k x y c;have Dw:1≤(one k x y c).size:=ω
 have O2:(one k x y c).size≤45001:=ω
 simp only[List.nil_append,List.length_nil]at HAD;obtain⟨T,hTe⟩:=Mem.QD (one k x y c);rw[hTe]at HAD Dw O2 Tq OW;rw[hTe];clear hf hc hs hk hm Dd hd hnb xC hP b1 b2 UC hg hsz hps Br hT hTe;go_enter func58,ntmps58;go_wp2_with fail;try rw[hw3]
 clear hw3;refine HAD.out.mono ?_;rintro e w4 ⟨rfl,zQ,hb4⟩;obtain⟨vN,vP,vS,vK,us,nps,hF,hL,VX,KU⟩:=zQ.all;have hnl:nps.length=T.size:=by rw[←VD (f:=(·.1)),hL,Qj]
 obtain⟨N,hN⟩:=Mem.QD (T.size);rw[hN]at hnl Dw O2;have Lz:us.length=N:=by rw[KU,Vh,hN]
 obtain⟨gN,ZO,rfl,_,_⟩:=hF.sliceAt (i:=1) rfl ω;obtain⟨gK,ZB,rfl,_,_⟩:=hF.sliceAt (i:=4) rfl ω;obtain⟨cN,LF⟩:=Mem.QD (nps.flatMap VC);obtain⟨nP,LB⟩:=Mem.QD ((Jn (-1) 0 T).length);obtain⟨nS,Lc⟩:=Mem.QD ((Zt T).length);obtain⟨cP,LD⟩:=Mem.QD ((Jn (-1) 0 T).map iv);obtain⟨cS,XE⟩:=Mem.QD ((Zt T).map iv);rw[hnl,Lz,LF,LB,LD,Lc,XE]at hF;obtain⟨⟨p0,p1,p2,p3⟩,z0,z1,z2,z3⟩:=Zr hF (j:=0) rfl;have KF:=QA (VG.out.trans (hb4.mono (Nat.le_succ _)));have wB:=QA (SC.out.kept (hb4.block _ (by have:=Mc.out;omega)));have sM:=QA hF;have HL:=QA hL;have QP:=QA VX;have vQ:=QA KU;have HN:=QA hN;have TU:=QA hnl;have rR:=QA Lz;have wV:=QA LF;clear q0 q1 q2 q3 zQ hF hL VX KU hN hnl Lz LF LB LD Lc XE hb4 HAD SC;go_wp2_with (at_make;refine wpList_make_full _ rfl _ _ 32 rfl 0 3 i0 (.int γ 0) 1 underlying32 hi0 hz0 hz1 _ _ _ _ N rfl rfl rfl rfl (by rw[hz2];omega) (by unfold maxLen;omega) (ZR _) ?_);intro w5 CG Bq;obtain⟨jV,kU⟩:=Mem.QD ((madeCells #[Value.int γ 0] N).toList);rw[kU]at CG;have Bn:jV.length=N:=by have:=CG.1;omega
 obtain⟨gm,Dl⟩:=Mem.QD (w4.heap.size);have Mh:QH w5 (w.heap.size+1) (Qb 5 1 (ς none 0 0) 0 []::Qb 3 1 (ς (some ⟨w4.heap.size,0,none⟩) N N) N jV::PR (w.heap.size+1) (ς (some ⟨gN,0,none⟩) N ZO) vP vS (ς (some ⟨gK,0,none⟩) N ZB) N cN nP cP nS cS N us us (Z7 0 T) []) :=
  (sM.out.cons (t:=Qb 3 1 (ς (some ⟨w4.heap.size,0,none⟩) N N) N jV) Bq CG (fun q hq=>by have hq:some w4.heap.size=some q:=hq;injection hq with hq;omega)).cons (t:=Qb 5 1 (ς none 0 0) 0 []) (World.grownBy.refl _ _) (World.ownsRow_nil _ _ _ _) (fun q hq=>by cases hq)
 have hg4:w.grownBy w4 (some bm):=⟨KF.out.os,KF.out.tape,KF.out.output,KF.out.size,fun q hq _=>KF.out.block q hq⟩;have WO:Below w4.heap.size w4 w5:=⟨Bq.os,Bq.tape,Bq.output,Bq.size,fun q hq=>Bq.block q hq ψ⟩;have HMI:Hid (MI w (w.heap.size+1) bm nb QG (nodes T) N N (ς none 0 0) (ς (some ⟨gm,0,none⟩) N N) (PR (w.heap.size+1) (ς (some ⟨gN,0,none⟩) N ZO) vP vS (ς (some ⟨gK,0,none⟩) N ZB) N cN nP cP nS cS N us us (Z7 0 T) []) [] jV D KS QG w5):=by
  refine⟨?_,⟨nb,wB.out.kept (WO.block _ (World.ownsMap.lt wB.out)),ω⟩,jh.out,uW.out,List.prefix_refl _,ω,Bn,fun p nd hp hn=>?_,Gt hg4 KF.out.size WO⟩
  ·rw[←Dl];exact Mh
  ·have:=(List.getElem?_eq_some_iff.1 hn).1;rw[Qj,HN.out]at this;omega
 rw[Dl];clear CG Bq kU Bn Dl Mh hg4 WO sM wB jh uW p0 p1 p2 p3 z0 z1 z2 z3;go_wp2
 go_loopw [7,8] (fun s7 s8 wr=>∃(e:Nat)(z:Int)(wv:Value)(wl:List UInt8)(mc:List Value)(D1:Dm)(Ic:List (List UInt8))(d1:List Nd),e≤N∧z+1=(e:Int)∧s7=wv∧s8=.int γ z∧Hid (MI w (w.heap.size+1) bm nb QG (nodes T) N e wv (ς (some ⟨gm,0,none⟩) N N) (PR (w.heap.size+1) (ς (some ⟨gN,0,none⟩) N ZO) vP vS (ς (some ⟨gK,0,none⟩) N ZB) N cN nP cP nS cS N us us (Z7 0 T) []) wl mc D1 Ic d1 wr)) (fun _ s _=>(intOf s+1).toNat)
 case atStart=>exact⟨N,(N:Int)-1,_,[],jV,D,KS,QG,QI _,ω,rfl,by go_num,HMI.out⟩
 case round =>
  clear HMI;obtain⟨e,z,wv,wl,mc,D1,Ic,d1,he,hz,rfl,rfl,HI⟩:=hrel;cases e with
  |zero =>
   have hz':¬(0:Int)≤z:=ω
   go_wp2;go_ret;obtain⟨v,Tk,JA,Ms,he,hp⟩:=Qyf HI.out HN.out;exact⟨v,he,Tk,JA,Ms,hp⟩
  |succ p =>
   obtain rfl:z=(p:Int):=ω
   have hp0:(0:Int)≤(p:Int):=ω
   have hpN:(p:Int)<(N:Int):=ω
   obtain⟨⟨nk,nx,ny,nc⟩,hnd⟩:∃nd,(nodes T)[p]?=some nd:=⟨_,QN (by rw[Qj,HN.out];omega)⟩;obtain⟨mg,D3⟩:=Tq.out _ (JK hnd);obtain⟨ZW,hk1⟩:=OW.out _ (JK hnd);have FC:(Z7 0 T)[p]?=some (places (p+1) nc):=by have:=Ux T 0 p _ hnd;rwa[Nat.zero_add]at this
   obtain⟨s,hps⟩:=Qyd HL.out hnd;obtain⟨As,Cs,Cz,_,_⟩:=(QP.out _ (JK hps)).slice;have Cz:s=ς As nc.len Cs:=Cz;subst Cz;obtain⟨⟨v0,v1,v2,v3⟩,z0,z1,z2,z3⟩:=Zr HI.out.GD (j:=2) rfl;obtain⟨y0,y1,y2,y3⟩:=yJ (j:=3) (nps:=nps) HI.out.GD (by rw[wV.out];rfl) hps;obtain⟨aw,cw,rfl,_,hcw⟩:=HI.out.GD.slice (i:=0) rfl;have hBr:w.heap.size+1≤wr.heap.size:=HI.out.GD.B;have hwd:=Qxi (bP HI.out.GD) hBr;have HOW:=QA (Qgp nk nx ny (ς As nc.len Cs) ZW hk1 mg D3 (ς aw 0 cw) [] wr.drew (w.heap.size+1) (World.ownsRow.drew hwd) hBr δ ((OP.out wr HI.out.grown).on ((Kg wr).mono hBr)) ⟨_,_,_,rfl⟩);have oW:=QA hwd;obtain⟨ln,YO⟩:=Mem.QD (nc.len);rw[YO]at y3 HOW;have J':=QA YO;have ME:=QA hnd;have Re:=QA FC;have Q28:(cw:Int)≤9223372036854775807:=by unfold maxLen at hcw;omega
   have Q29:(0:Int)≤(cw:Int):=ω
   have uZ:=QA hBr;clear hnd mg D3 ZW hk1 FC hps hwd hcw YO hBr;go_wp2
   go_still_tail 7,χ
   change wpList _ _ _ _ _ wr.drew;go_wp2_with fail;refine HOW.out.mono ?_;rintro e w8 ⟨v8,rfl,AR,PK⟩;rw[List.nil_append]at AR
   have hoth:∀t∈(Qb 3 1 (ς (some ⟨gm,0,none⟩) N N) N mc::PR (w.heap.size+1) (ς (some ⟨gN,0,none⟩) N ZO) vP vS (ς (some ⟨gK,0,none⟩) N ZB) N cN nP cP nS cS N us us (Z7 0 T) []),yM t:=fun t ht=>by
    rcases List.mem_cons.1 ht with rfl|ht
    ·exact Ya δ
    ·exact Qx9 t ht
   have HOT:=QA hoth;have Dq:=Ų (HI.out.GD.later (Kg wr)) hoth PK AR;have Hm:=QA (((Kg wr).mono uZ.out).trans PK.QF);have BI:=QA Dq;obtain⟨l8,mR⟩:=Mem.QD (ownB nk nx ny);rw[mR]at BI AR;have HL8:=QA mR;obtain⟨a8,c8,rfl,_,_⟩:=Q0 AR;obtain⟨u,hu⟩:∃u,us[p]?=some u:=⟨_,QN (by rw[rR.out];omega)⟩
   have lg:∀(q0 q1:QC),(q0::q1::PR (w.heap.size+1) (ς (some ⟨gN,0,none⟩) N ZO) vP vS (ς (some ⟨gK,0,none⟩) N ZB) N cN nP cP nS cS N us us (Z7 0 T) [])[p+7]? = some (Qb 3 1 u (places (p+1) nc).length ((places (p+1) nc).map nv)):=fun q0 q1=>by
    show(PR (w.heap.size+1) (ς (some ⟨gN,0,none⟩) N ZO) vP vS (ς (some ⟨gK,0,none⟩) N ZB) N cN nP cP nS cS N us us (Z7 0 T) [])[p+5]?=_;exact OH hu Re.out
   obtain⟨au,cu,rfl,_,_⟩:=BI.out.slice (lg _ _);rw[Jc,J'.out]at lg;have zT:=BI.out.cell (i:=6) rfl hu;rw[Jc,J'.out]at zT;obtain⟨⟨v0',v1',v2',v3'⟩,tj,td,sZ,sY⟩:=Zr BI.out (j:=2) rfl;have rS:=QA lg;have mM:ln≤45000:=by have h1:=Em T p _ ME.out;have h2:=F.QL nc;have h3:=HN.out;have h4:=J'.out;simp only at h1;omega
   clear v0 v1 v2 v3 z0 z1 z2 z3 y0 y1 y2 y3 AR PK hoth Dq mR hu lg HOW oW;go_wp2;clear v0' v1' v2' v3' tj td sZ sY zT;obtain⟨ms,KL⟩:=Mem.QD ((Kt nc).map (Qs d1));have JL:=QA KL;have Bn:ms.length=ln:=by rw[←KL,VD,iz,J'.out]
   have uA:=QA Bn
   -- each Q1y number
   have uL:Hid (∀j,j<ln→∃q m,(places (p+1) nc)[j]? = some q∧q<N∧mc[q]? = some (nv m)∧ms[j]? = some m∧m<10000000):=fun j hj=>by
    obtain⟨t,ht⟩:∃t,(Kt nc)[j]?=some t:=⟨_,QN (by rw[iz,J'.out];exact hj)⟩;obtain⟨q,h1,h2,h3,h4⟩:=ď ME.out ht;obtain⟨m,h5,h6⟩:=HI.out.is q t ω h2;refine⟨q,m,h1,by rw[←HN.out];exact h4,h5,?_,?_⟩
    ·rw[←KL,VP,ht];show some (Qs d1 t)=_;rw[Xi HI.out.NC.nodup h6]
    ·have:=(List.getElem?_eq_some_iff.1 h6).1;have:=HI.out.few;have:=HDL.out;omega
   have HTM:Hid (∀t∈Kt nc,t∈d1):=fun t ht=>by
    obtain⟨j,hj⟩:=List.getElem?_of_mem ht;obtain⟨q,h1,h2,h3,h4⟩:=ď ME.out hj;obtain⟨m,h5,h6⟩:=HI.out.is q t ω h2;exact JK h6
   have sA:Hid (l8.length≤100000000):=by show _≤_;rw[←HL8.out];unfold ownB NG V3;have e1:nx.data.toList.length=nx.size:=Array.length_toList;have e2:ny.data.toList.length=ny.size:=Array.length_toList;have hs:=Tq.out _ (JK ME.out);have hk:=OW.out _ (JK ME.out);have i0:=Lib.itoa_length_le nk hk.1 hk.2;have i1:=Lib.itoa_length_le (nx.size:Int) ω (by have:=hs.1;simp only at this;omega);have i2:=Lib.itoa_length_le (ny.size:Int) ω (by have:=hs.2;simp only at this;omega);have s1:=hs.1;have s2:=hs.2;simp only at s1 s2;simp only[ZU,e1,e2,List.length_cons,List.length_nil];omega
   clear KL Bn;obtain⟨w9,ld⟩:∃w9,w9=w8:=⟨_,rfl⟩;rw[←ld]at BI Hm⊢;clear ld;obtain⟨wm,H6⟩:∃wm,wm=wr:=⟨_,rfl⟩;rw[←H6]at HI Hm uZ;clear H6
   go_loopw [7,40] (fun s7 s40 wr=>∃(j:Nat)(v:Value)(wl:List UInt8),j≤ln∧s7=v∧s40=.int γ (j:Int)∧Hid (wl=l8++ND (ms.take j))∧Hid (QH wr (w.heap.size+1) (Qb 5 1 v wl.length (Lib.byteCells wl)::Qb 3 1 (ς (some ⟨gm,0,none⟩) N N) N mc::PR (w.heap.size+1) (ς (some ⟨gN,0,none⟩) N ZO) vP vS (ς (some ⟨gK,0,none⟩) N ZB) N cN nP cP nS cS N us us (Z7 0 T) []))∧Hid (Below (w.heap.size+1) w9 wr)) (fun _ s _=>ln-(intOf s).toNat)
   case atStart=>exact⟨0,_,l8,ZR _,rfl,rfl,by show _=_;simp[ND],BI.out,Below.refl _ _⟩
   case round =>
    clear BI;obtain⟨j,v,wl,hj,rfl,rfl,rP,HF,HB⟩:=hrel;obtain⟨a9,c9,rfl,_,_⟩:=HF.out.slice (i:=0) rfl;by_cases hjl:j<ln
    ·have Df:(j:Int)<(ln:Int):=ω
     have Mf:(0:Int)≤(j:Int):=ω
     obtain⟨q,m,h1,h2,h3,h4,h5⟩:=uL.out j hjl;obtain⟨gu,cu',eu,_,_⟩:=HF.out.sliceAt (i:=p+7) (rS.out _ _) ω;injection eu with eu1 _ eu3;subst eu1;subst eu3;have hq1:=HF.out.cell (i:=p+7) (rS.out _ _) (j:=j) (u:=nv q) (by rw[VP,h1];rfl);have hq2:=HF.out.cell (i:=1) rfl h3;have hqN:(q:Int)<(N:Int):=ω
     have hq0:(0:Int)≤(q:Int):=ω
     have hlen:wl.length≤1000000000:=by
      have hh:=ķ (ms.take j) (fun m' hm'=>by
       obtain⟨jj,IE⟩:=List.getElem?_of_mem (List.mem_of_mem_take hm');obtain⟨q',m'',g1,g2,g3,g4,g5⟩:=uL.out jj (by rw[←uA.out];exact(List.getElem?_eq_some_iff.1 IE).1);rw[IE]at g4;injection g4 with g4;omega)
      rw[rP.out,ZU];have:=sA.out;rw[List.length_take]at hh;omega
     have BH:=QA (Ev (m:Int) ω ω (ς a9 wl.length c9) wl wr (w.heap.size+1) (bP HF.out) HF.out.B hlen ((OP.out wm HI.out.grown).on (Hm.out.trans HB.out)));have BA:Hid (wl++V3 (m:Int)=l8++ND (ms.take (j+1))):=by show _=_;rw[rP.out,List.take_add_one,h4];simp[ND]
     have MH:=QA hjl;clear h1 h2 h3 h4 h5 hlen hjl;go_wp2_with fail;refine BH.out.mono ?_;rintro e UT ⟨v10,rfl,ku,Wy⟩;have uS:=QA (Ų HF.out HOT.out Wy ku);have Sr:=QA (HB.out.trans Wy.QF);obtain⟨l10,kY⟩:=Mem.QD (wl++V3 (m:Int));rw[kY]at uS BA;clear hq1 hq2 ku Wy kY BH;go_wp2
     go_roundw
     case rel=>exact⟨j+1,v10,l10,by have:=MH.out;omega,rfl,by go_num,BA.out,uS.out,Sr.out⟩
     case measure=>have:=MH.out;simp[intOf];omega
    ·obtain rfl:ln=j:=ω
     have Df:¬(ln:Int)<(ln:Int):=ω
     have hkey:wl=DJ d1 ⟨nk,nx,ny,nc⟩:=by rw[rP.out,←HL8.out,List.take_of_length_le (by rw[uA.out];exact QI _),←JL.out];rfl
     have HKEY:=QA hkey;have hwd:=bP HF.out;have hcv:=Qwp hwd;have kq:wl.length≤maxLen:=by obtain⟨a',c',e,h1,h2⟩:=Q0 hwd;omega
     have F8:keyOf prog 9 (.string ⟨wl.toArray⟩)=some (.string wl):=by have:=WideMaps.keyOf_string_mk (P:=prog) underlying9 (s:=⟨wl.toArray⟩) (by show wl.toArray.size≤_;rw[List.size_toArray];exact kq);rw[this]
     obtain⟨Hu,hmp,Wm⟩:=HI.out.map;have kT:JX wr bm Hu D1:=hmp.kept ((Hm.out.trans HB.out).block _ (by have:=Mc.out;omega));have SC:=QA kT;have qV:=QA Wm;have hgr:w.grownBy wr (some bm):=Gt HI.out.grown (Nat.le_succ _) (Hm.out.trans HB.out);have HGR:=QA hgr;have Pq:=QA F8;have HCV:=QA hcv;have kN:p<N:=ω
     have hst:=fun(i:Nat)=>HF.out.store (i:=1) rfl p (nv i)
     have HST:=QA hst;have cz:∃z,wr.cell? ⟨gm,p,none⟩=some z:=by have hlen:=HI.out.len;exact⟨_,HF.out.cell (i:=1) rfl (QN ω)⟩
     obtain⟨zm,hzm⟩:=cz;have cn:=HF.out.JO (i:=1) rfl p;have Rv:Hid (w.heap.size+1≤gm):=(HF.out.lt (k:=gm) (JK (i:=1) rfl) rfl).1;clear hjl hkey hwd kq hmp Wm kT hgr F8 hst rP;by_cases hin:DJ d1 ⟨nk,nx,ny,nc⟩∈Ic
     ·obtain⟨i,hi1,hi2⟩:=HI.out.NC.at_ HTM.out hin;rw[←HKEY.out]at hi1 hin;have zl:Hid (Maps.has D1 (.string wl)=true):=HI.out.km.has wl hin;have Px:Hid (∀z,D1.atKey (.string wl) z=.lit (.int γ (i:Int))):=HI.out.km.at_ i wl hi1;have zk:=QA hi2;have hcv:=HCV.out;clear hin hi1 hi2;go_wp2_with (at_lookup;refine wpList_lookup_own_ok_int _ rfl _ _ 88 rfl 9 3 γ (Maps.string_keyed underlying9) underlying88 underlying3 (Tryz.zeroValue3 _) bm Hu D1 rfl SC.out _ _ rfl Pq.out ?_);intro cc hat _;rw[Px.out]at hat;obtain rfl:cc=(i:Int):=by injection hat with hat;injection hat with _ hat;exact hat.symm
      rw[zl.out];have wj:=QA (ē HI.out kN (HST.out i).1 ⟨Hu,SC.out.kept (Below.heap_setCell _ _ _ _ (show bm≠gm by have:=Mc.out;have:=Rv.out;omega)),by have:=qV.out;omega⟩ HI.out.km HI.out.NC (List.prefix_refl _) (Nat.le_succ _) ME.out zk.out (Gt HGR.out (Nat.le_succ _) (HST.out i).2));clear hat hcv HST SC HF HB HI;go_wp2
      go_roundw
      case rel=>exact⟨p,(p:Int)-1,_,_,_,D1,Ic,d1,ω,ω,rfl,by go_num,wj.out⟩
      case measure=>(simp[intOf];try omega)
     ·have uV:=QA (HI.out.NC.push HTM.out hin);rw[←HKEY.out]at hin uV;have zl:Hid (Maps.has D1 (.string wl)=false):=HI.out.km.WQ wl hin;have Rs:=QA (HI.out.km.put hin HI.out.NC.AF);have XO:Hid (Maps.size D1=Ic.length):=HI.out.km.size;have wG:Hid (d1.length=Ic.length):=HI.out.NC.len;have hks:Ic.length≤2000000:=by
       have h1:=HI.out.few;have h2:=HDL.out;have h3:=wG.out;omega
      have Bd:=QA hks;have zk:Hid ((d1++[⟨nk,nx,ny,nc⟩])[Ic.length]?=some ⟨nk,nx,ny,nc⟩):=by show _=_;rw[List.getElem?_append_right (by rw[wG.out];exact QI _),wG.out,Nat.sub_self];rfl
      obtain⟨tW,kO⟩:=Mem.QD (Ic.length);rw[kO]at XO zk Rs hks Bd;have hcv:=HCV.out;clear hin kO;go_wp2_with (at_lookup;refine wpList_lookup_own_ok_int _ rfl _ _ 88 rfl 9 3 γ (Maps.string_keyed underlying9) underlying88 underlying3 (Tryz.zeroValue3 _) bm Hu D1 rfl SC.out _ _ rfl Pq.out ?_);intro cc hat _;rw[zl.out];clear hat;go_wp2_with (at_len;refine wpList_len_own _ rfl _ 88 rfl 9 3 underlying88 _ bm Hu D1 rfl SC.out ?_);rw[XO.out];obtain⟨Na,hrun,CT,WD⟩:=World.ownsMap.update (t:=88) (e:=3) SC.out (Maps.string_keyed underlying9) underlying88 (by have:=qV.out;have:=qW.out;unfold maxLen;omega) Pq.out (val:=.int γ (tW:Int)) (plainElem_int underlying3 (Qxh (n:=tW) (by have:=Bd.out;omega)));have FI:=QH.YK HF.out (by have:=Mc.out;omega) WD;have hst:=FI.store (i:=1) rfl p (nv tW);obtain⟨zm',Q1z⟩:∃z,Na.cell? ⟨gm,p,none⟩=some z:=by have hlen:=HI.out.len;exact⟨_,FI.cell (i:=1) rfl (QN ω)⟩
      have Q1m:=FI.JO (i:=1) rfl p;have wj:=QA (ē HI.out kN hst.1 ⟨Hu+1,(show JX Na bm (Hu+1) _ from CT).kept (Below.heap_setCell _ _ _ _ (show bm≠gm by have:=Mc.out;have:=Rv.out;omega)),by have:=qV.out;omega⟩ Rs.out uV.out (List.prefix_append _ _) ψ ME.out zk.out (Gt (Qlq HGR.out WD) (Nat.le_succ _) hst.2));clear HST SC HF HB HI CT WD FI hst hzm cn;go_wp2_with fail;rw[hrun];go_wp2
      go_roundw
      case rel=>exact⟨p,(p:Int)-1,_,_,_,_,_,_,ω,ω,rfl,by go_num,wj.out⟩
      case measure=>(simp[intOf];try omega)
theorem Qwe{us:List Value}{ks:List (List Nat)}{i:Nat}{u:Value}{l l':List Nat}(hl:us.length=ks.length)(hu:us[i]?=some u)(hk:l'.length=l.length):(VW us ks).set i (Qb 3 1 u l.length (l'.map nv))=VW us (ks.set i l'):=by
 have h:=Uy us ks i u l' hl;rw[hk]at h;rw[h]
 congr 1
 obtain⟨h1,h2⟩:=List.getElem?_eq_some_iff.1 hu;rw[←h2,List.set_getElem_self]
theorem Ũ:∀(i:Nat)(s:List Nd)(l:F),(Gi i s l).length≤s.length+l.size
 |0,s,l=>Nat.le_add_right _ _
 |i+1,s,.nil=>Nat.le_add_right _ _
 |i+1,s,.cons k x y c r=>by
  have h1:=Ũ i (Qk s (nodes (one k x y c))).2 r;have h2:=Gh (nodes (one k x y c)) s;rw[Qj,Q4]at h2;simp only[Gi,F.size];omega
theorem Qoy(n:Nat):(madeCells #[ι γ 0] n).toList=(List.replicate n (0:Int)).map iv:=by
 apply List.ext_getElem?;intro j;rw[VP,List.getElem?_replicate];by_cases hj:j<n
 ·simp[madeCells,hj,Nat.mod_one]
 ·simp[madeCells,hj]
def Ko(i:Nat)(l:F)(Ms:List (List Nat)):List (List Nat):=(Kl [] l).take i++Ms.drop i
theorem Qww{i:Nat}{l:F}{Ms:List (List Nat)}{M:List Nat}(hi:i≤l.len)(hM:Ms[i]?=some M):(Ko i l Ms)[i]?=some M:=by
 unfold Ko;have h:((Kl [] l).take i).length=i:=by rw[JS,J0];omega
 rw[GK ω,h,Nat.sub_self,List.getElem?_drop,Nat.add_zero,hM]
theorem Qp0{i:Nat}{l:F}{Ms:List (List Nat)}{R M:List Nat}(hi:i<l.len)(hM:Ms[i]?=some M)(hR:(Kl [] l)[i]?=some R):(Ko i l Ms).set i R=Ko (i+1) l Ms:=by
 unfold Ko;have h:((Kl [] l).take i).length=i:=by rw[JS,J0];omega
 rw[List.set_append_right _ _ ω,h,Nat.sub_self,List.take_add_one,hR];have hd:Ms.drop i=M::Ms.drop (i+1):=by obtain⟨h1,h2⟩:=List.getElem?_eq_some_iff.1 hM;rw[←h2,List.getElem_cons_drop]
 rw[hd];simp
theorem Qt1{i:Nat}{l:F}{Ms:List (List Nat)}(hi:i≤l.len)(hM:Ms.length=l.len):(Ko i l Ms).length=l.len:=by
 unfold Ko;rw[List.length_append,JS,J0,List.length_drop,hM];omega
theorem Qt2{l:F}{Ms:List (List Nat)}(hM:Ms.length=l.len):Ko l.len l Ms=Kl [] l:=by
 unfold Ko;rw[List.take_of_length_le (by rw[J0];exact Nat.le_refl _),List.drop_of_length_le ω,He]
def VB(S L:List Nd)(M:List Nat)(j:Nat):List Nat:=(Qk S (L.take j)).1++M.drop j
theorem ō{S L:List Nd}{M:List Nat}{j:Nat}(hM:M.length=L.length)(hj:j≤L.length):(VB S L M j).length=L.length:=by
 unfold VB;rw[List.length_append,Z0,JS,List.length_drop,hM];omega
theorem Qur{S L:List Nd}{M:List Nat}{j m:Nat}(hM:M.length=L.length)(hj:j<L.length)(hm:M[j]?=some m):(VB S L M j)[j]?=some m:=by
 unfold VB;have h:(Qk S (L.take j)).1.length=j:=by rw[Z0,JS];omega
 rw[GK ω,h,Nat.sub_self,List.getElem?_drop,Nat.add_zero,hm]
theorem Qn9{S L:List Nd}{M:List Nat}{j m:Nat}{nd:Nd}(hM:M.length=L.length)(hj:L[j]?=some nd)(hm:M[j]?=some m) :
 (VB S L M j).set j (Qs (Qk S (L.take j)).2 nd)=VB S L M (j+1)∧(Qk S (L.take (j+1))).2=Xq (Qk S (L.take j)).2 nd:=by
 have hjl:=(List.getElem?_eq_some_iff.1 hj).1;have h:(Qk S (L.take j)).1.length=j:=by rw[Z0,JS];omega
 have e:L.take (j+1)=L.take j++[nd]:=by rw[List.take_add_one,hj];rfl
 have hd:M.drop j=m::M.drop (j+1):=by obtain⟨h1,h2⟩:=List.getElem?_eq_some_iff.1 hm;rw[←h2,List.getElem_cons_drop]
 constructor
 ·unfold VB;rw[List.set_append_right _ _ ω,h,Nat.sub_self,hd,e,Eo];simp
 ·rw[e,Eo]
theorem Qn8(S L:List Nd)(M:List Nat):VB S L M 0=M:=by simp[VB,Qk]
theorem Qrs{S L:List Nd}{M:List Nat}(hM:M.length=L.length):VB S L M L.length=(Qk S L).1:=by
 unfold VB;rw[List.take_length,List.drop_of_length_le ω,He]
structure OJ(QG:List Nd)(l:F)(Ms:List (List Nat)):Prop where
 len:Ms.length=l.len
 at_:∀i k x y c r,l.drop i=.cons k x y c r→∃M,Ms[i]?=some M∧M.length=(nodes (one k x y c)).length∧∀(p:Nat)(nd:Nd),(nodes (one k x y c))[p]?=some nd→∃m,M[p]?=some m∧QG[m]?=some nd
theorem Qgk(w:World)(B:Nat)(l:F)(aM:Option Addr)(n cM:Nat)(us:List Value)(Ms:List (List Nat))(QG:List Nd)(hd:QG.Nodup)(hK:OJ QG l Ms)(hF:QH w B (Qb 32 1 (ς aM n cM) n us::VW us Ms))(hn:l.len=n)(hu:us.length=n)(hl:l.size≤45000)(xC:QG.length≤1000000) :
 Calls Tryz.prog 59 #[ς aM n cM,ι γ (QG.length:Int)] w fun e w'=>e=ρ (.tuple #[])∧QH w' B (Qb 32 1 (ς aM n cM) n us::VW us (Kl [] l))∧Below B w w':=by
 obtain⟨i0,hi0,hz0,hz1,hz2⟩:=info_parts Zq;obtain⟨cnt,GU⟩:=Mem.QD (QG.length);rw[GU]at xC⊢;have hlen:=hK.len;have hnn:n≤45000:=by have:=F.QL l;omega
 have HF:=QA hF;have HK:=QA hK;have HD:=QA hd;have HN:=QA hn;have HU:=QA hu;have HL:=QA hl;have HC:=QA GU;have uA:=QA hlen;have jr:Hid (Ko 0 l Ms=Ms):=by show _=_;simp[Ko]
 have hB:=hF.B;clear hF hK hd hn hu hl GU hlen;go_enter Tryz.func59,Tryz.ntmps59;go_wp2_with (at_make;refine wpList_make_full _ rfl _ _ 32 rfl 0 3 i0 (ι γ 0) 1 Tryz.underlying32 hi0 hz0 hz1 _ _ _ _ cnt rfl rfl rfl rfl (by rw[hz2];omega) (by unfold maxLen;omega) (Nat.zero_le _) ?_);intro w1 XD hg1;rw[show(madeCells #[ι γ 0] cnt).toList=(List.replicate cnt (0:Int)).map iv from Qoy cnt]at XD;obtain⟨gt,hgt⟩:=Mem.QD (w.heap.size);have Pe:=HF.out.cons (t:=Qb 3 1 (ς (some ⟨w.heap.size,0,none⟩) cnt cnt) cnt ((List.replicate cnt (0:Int)).map iv)) hg1 XD (fun q hq=>by have hq:some w.heap.size=some q:=hq;injection hq with hq;omega);have Z':Hid (Below B w w1):=⟨hg1.os,hg1.tape,hg1.output,hg1.size,fun q hq=>hg1.block q (Nat.lt_of_lt_of_le hq hB) ψ⟩;have GF:Hid (JV QG (Gi 0 [] l) (List.replicate cnt 0)):=by have:=JV.start QG;rwa[HC.out]at this
 rw[hgt]at Pe;rw[hgt];have XY:Hid (QH w1 B (Qb 3 1 (ς (some ⟨gt,0,none⟩) cnt cnt) cnt ((List.replicate cnt (0:Int)).map iv)::Qb 32 1 (ς aM n cM) n us::VW us (Ko 0 l Ms))):=by rw[jr.out];exact Pe
 clear XD hg1 Pe hgt hB HF jr;go_wp2
 go_loopw [5,14] (fun s5 UU wr=>∃(i:Nat)(turn:List Int),i≤n∧s5=ι γ ((Gi i [] l).length:Int)∧UU=ι γ (i:Int)∧Hid (JV QG (Gi i [] l) turn)∧Hid (QH wr B (Qb 3 1 (ς (some ⟨gt,0,none⟩) cnt cnt) cnt (turn.map iv)::Qb 32 1 (ς aM n cM) n us::VW us (Ko i l Ms)))∧Hid (Below B w wr)) (fun _ s _=>n-(intOf s).toNat)
 case atStart=>exact⟨0,_,Nat.zero_le _,rfl,rfl,GF.out,XY.out,Z'.out⟩
 case round =>
  clear GF XY Z';obtain⟨i,turn,hi,rfl,rfl,HT,HF,HB⟩:=hrel;by_cases hlt:i<n
  ·have hlt':(i:Int)<(n:Int):=ω
   have xg:(0:Int)≤(i:Int):=ω
   obtain⟨k,x,y,c,r,hdr,_⟩:=F.drop_cons (n:=i) (f:=l) (by rw[HN.out];exact hlt);obtain⟨M,dx,Mn,WT⟩:=HK.out.at_ i k x y c r hdr;obtain⟨Fz,Fy⟩:=Š i [] l k x y c r hdr;have hsl:=Ũ i [] l;obtain⟨S,hS⟩:=Mem.QD (Gi i [] l);rw[hS]at HT Fz Fy hsl⊢;have hds:c.size+1≤l.size:=by
    have:∀(f:F)(j:Nat),f.drop j=.cons k x y c r→c.size+1≤f.size:=by
     intro f
     induction f with
     |nil=>intro j h;rw[F.drop_nil]at h;cases h
     |cons k' x' y' c' r' _ ih =>
      intro j h;cases j with
      |zero=>simp only[F.drop,F.cons.injEq]at h;obtain⟨_,_,_,rfl,_⟩:=h;exact c160
      |succ j=>have:=ih j h;exact c160
    exact this l i hdr
   have hnl:(nodes (one k x y c)).length=c.size+1:=by rw[Qj,Q4]
   obtain⟨L,gp⟩:=Mem.QD (nodes (one k x y c));rw[gp]at Mn WT Fz Fy hnl;obtain⟨u,hu⟩:∃u,us[i]?=some u:=⟨_,QN (by rw[HU.out];exact hlt)⟩;have Oq:=Qww (l:=l) (by rw[HN.out];omega) dx;have FE:∀(q0 q1:QC)(ks:List (List Nat))(l':List Nat),ks[i]?=some l'→(q0::q1::VW us ks)[i+2]?=some (Qb 3 1 u l'.length (l'.map nv)):=fun q0 q1 ks l' h=>Xg hu h
   obtain⟨gu,cu,hue,_,_⟩:=HF.out.sliceAt (FE _ _ _ _ Oq) ω;obtain⟨gM,cM',eM,_,_⟩:=HF.out.sliceAt (i:=1) rfl ω;injection eM with eM1 _ eM3;subst eM1;subst eM3;have xG:=HF.out.cell (i:=1) rfl hu;subst hue;obtain⟨NN,TM⟩:=Mem.QD (L.length);rw[TM]at Mn hnl;rw[Mn]at xG hu FE;have wH:=QA FE;have rS:=QA hu;have MF:=QA dx;have SD:Hid (M.length=L.length):=by show _=_;rw[Mn,TM]
   have uD:=QA WT;have wu:=QA Fz;have uB:=QA Fy;have Sk:=QA TM;have IK:=QA Oq;have HS:=QA hS;have FO:NN≤45001:=by have:=HL.out;omega
   have hS5:S.length≤45000:=by have:=HL.out;simp at hsl;omega
   have XW:=QA hlt;clear hdr dx Mn WT Fz Fy hsl hS hds hnl gp hu Oq FE TM hlt;go_wp2;clear xG
   have XP:Hid (∀(j:Nat)(q0 q1:QC),j≤NN→(q0::q1::VW us ((Ko i l Ms).set i (VB S L M j)))[i+2]? = some (Qb 3 1 (ς (some ⟨gu,0,none⟩) NN cu) NN ((VB S L M j).map nv))):=fun j q0 q1 hj=>by
    have h:=wH.out q0 q1 ((Ko i l Ms).set i (VB S L M j)) (VB S L M j) (List.getElem?_set_self (List.getElem?_eq_some_iff.1 IK.out).1);rwa[ō SD.out (by rw[Sk.out];exact hj),Sk.out]at h
   have ug:Hid (∀(j f:Nat)(q0 q1:QC),j≤NN→(q0::q1::VW us ((Ko i l Ms).set i (VB S L M j))).set (i+2) (Qb 3 1 (ς (some ⟨gu,0,none⟩) NN cu) NN (((VB S L M j).map nv).set j (nv f)))=q0::q1::VW us ((Ko i l Ms).set i ((VB S L M j).set j f))):=fun j f q0 q1 hj=>by
    show q0::q1::(VW us ((Ko i l Ms).set i (VB S L M j))).set i _=_;have hl:=ō (S:=S) SD.out (show j≤L.length by rw[Sk.out];exact hj);have h:=Qwe (us:=us) (ks:=(Ko i l Ms).set i (VB S L M j)) (i:=i) (l:=VB S L M j) (l':=(VB S L M j).set j f) (by rw[List.length_set,Qt1 (by rw[HN.out];exact hi) uA.out,HN.out,HU.out]) rS.out (by rw[List.length_set]);rw[hl,Sk.out,List.set_set,List.map_set]at h;rw[h]
   have EK:QH wr B (Qb 3 1 (ς (some ⟨gt,0,none⟩) cnt cnt) cnt (turn.map iv)::Qb 32 1 (ς (some ⟨gM,0,none⟩) n cM) n us::VW us ((Ko i l Ms).set i (VB S L M 0))):=by
    have e:(Ko i l Ms).set i (VB S L M 0)=Ko i l Ms:=by rw[Qn8];obtain⟨h1,h2⟩:=List.getElem?_eq_some_iff.1 IK.out;rw[←h2,List.set_getElem_self]
    rw[e];exact HF.out
   have LK:=QA EK;clear EK;obtain⟨wo,hwo⟩:∃wo,wo=wr:=⟨_,rfl⟩;rw[←hwo]at HB HF LK⊢;clear hwo
   go_loopw [5,20] (fun s5 SJ wr=>∃(j:Nat)(tn:List Int),j≤NN∧s5=ι γ ((Qk S (L.take j)).2.length:Int)∧SJ=ι γ (j:Int)∧Hid (JV QG (Qk S (L.take j)).2 tn)∧Hid (QH wr B (Qb 3 1 (ς (some ⟨gt,0,none⟩) cnt cnt) cnt (tn.map iv)::Qb 32 1 (ς (some ⟨gM,0,none⟩) n cM) n us::VW us ((Ko i l Ms).set i (VB S L M j))))∧Hid (Below B wo wr)) (fun _ s _=>NN-(intOf s).toNat)
   case atStart=>exact⟨0,turn,Nat.zero_le _,rfl,rfl,HT.out,LK.out,Below.refl _ _⟩
   case round =>
    clear LK HT HF;obtain⟨j,tn,hj,rfl,rfl,HT,HF,Af⟩:=hrel;by_cases hjl:j<NN
    ·have Df:(j:Int)<(NN:Int):=ω
     have Mf:(0:Int)≤(j:Int):=ω
     obtain⟨nd,hnd⟩:∃nd,L[j]?=some nd:=⟨_,QN (by rw[Sk.out];exact hjl)⟩;obtain⟨m,EJ,hm2⟩:=uD.out j nd hnd;have mI:m<cnt:=by rw[←HC.out];exact(List.getElem?_eq_some_iff.1 hm2).1
     have Q2m:(m:Int)<(cnt:Int):=ω
     have hm0:(0:Int)≤(m:Int):=ω
     have Lb:=Qur (S:=S) SD.out (show j<L.length by rw[Sk.out];exact hjl) EJ;have hc1:=HF.out.cell (XP.out j _ _ hj) (j:=j) (u:=nv m) (by rw[VP,Lb];rfl);have hz1:=HF.out.JO (XP.out j _ _ hj) j;obtain⟨z,hz⟩:∃z,tn[m]?=some z:=⟨_,QN (by rw[HT.out.len,HC.out];exact mI)⟩;have hc2:=HF.out.cell (i:=0) rfl (j:=m) (u:=iv z) (by rw[VP,hz];rfl);have Q10:=HF.out.JO (i:=0) rfl m;obtain⟨RH,LV⟩:=Qn9 (S:=S) SD.out hnd EJ;have hsl:=Gh (L.take j) S;rw[JS]at hsl;obtain⟨SS,df⟩:=Mem.QD ((Qk S (L.take j)).2);rw[df]at HT RH LV hsl⊢;have dc:SS.length≤135000:=ω
     have hne:gu≠gt:=by
      have h1:=HF.out.ne (i:=i+2) (j:=0) (XP.out j _ _ hj) rfl ω;rcases h1 with h1|h1
      ·cases h1
      ·intro e;exact h1 (by rw[e];rfl)
     have CR:gt≠gu:=fun e=>hne e.symm
     have Q3j:=QA RH;have Q3i:=QA LV;have MH:=QA hjl;by_cases hz0:z=0
     ·subst hz0;obtain⟨Ri,Fx,Wn⟩:=HT.out.new HD.out hm2 hz;rw[Fx]at LV Wn;rw[Ri]at RH;have hA:=HF.out.store (i:=0) rfl m (ι γ ((SS.length:Int)+1));have hB:=hA.1.store (XP.out j _ _ hj) j (ι γ (SS.length:Int));have Mh:QH ((wr.setCell ⟨gt,m,none⟩ (ι γ ((SS.length:Int)+1))).setCell ⟨gu,j,none⟩ (ι γ (SS.length:Int))) B (Qb 3 1 (ς (some ⟨gt,0,none⟩) cnt cnt) cnt ((tn.set m ((SS.length+1:Nat):Int)).map iv)::Qb 32 1 (ς (some ⟨gM,0,none⟩) n cM) n us::VW us ((Ko i l Ms).set i (VB S L M (j+1)))):=by
       rw[←RH,List.map_set,←ug.out j SS.length _ _ hj];exact hB.1
      have ID:=QA Mh;have Mc:=QA ((Af.out.trans hA.2).trans hB.2);have MC:Hid (JV QG (Qk S (L.take (j+1))).2 (tn.set m ((SS.length+1:Nat):Int))):=by rw[LV];exact Wn
      have LH:Hid ((Qk S (L.take (j+1))).2.length=SS.length+1):=by show _=_;rw[LV];simp
      clear RH LV hsl df Lb hnd EJ hm2 hz mI hjl Ri Fx Wn hA hB Mh HT HF;go_wp2;refine⟨⟨j+1,_,by have:=MH.out;omega,by rw[LH.out];rfl,rfl,MC.out,ID.out,Mc.out⟩,?_⟩;have:=MH.out;simp[intOf];omega
     ·obtain⟨XD,EI⟩:=HT.out.old hm2 hz hz0;obtain⟨f,hf⟩:=Mem.QD (Qs SS nd);rw[hf]at XD RH;obtain rfl:z=(f:Int)+1:=ω
      rw[EI]at LV;have hz0':(((f:Int)+1)==0)=false:=by simp;omega
      have Mk:f≤135000:=by rw[←hf];exact Nat.le_trans (ğ _ _) dc
      have hB:=HF.out.store (XP.out j _ _ hj) j (ι γ (f:Int));have Mh:QH (wr.setCell ⟨gu,j,none⟩ (ι γ (f:Int))) B (Qb 3 1 (ς (some ⟨gt,0,none⟩) cnt cnt) cnt (tn.map iv)::Qb 32 1 (ς (some ⟨gM,0,none⟩) n cM) n us::VW us ((Ko i l Ms).set i (VB S L M (j+1)))):=by rw[←RH,←ug.out j f _ _ hj];exact hB.1
      have ID:=QA Mh;have Mc:=QA (Af.out.trans hB.2);have MC:Hid (JV QG (Qk S (L.take (j+1))).2 tn):=by rw[LV];exact HT.out
      have LH:Hid ((Qk S (L.take (j+1))).2.length=SS.length):=by show _=_;rw[LV]
      clear RH LV hsl df Lb hnd EJ hm2 hz mI hjl XD EI hf hB Mh HT HF hz0;go_wp2;refine⟨⟨j+1,_,by have:=MH.out;omega,by rw[LH.out],rfl,MC.out,ID.out,Mc.out⟩,?_⟩;have:=MH.out;simp[intOf];omega
    ·obtain rfl:NN=j:=ω
     have Df:¬(NN:Int)<(NN:Int):=ω
     have hend:VB S L M NN=(Qk S L).1:=by rw[←Sk.out];exact Qrs SD.out
     have htk:L.take NN=L:=by rw[←Sk.out];exact List.take_length
     have hst:=Qp0 (by rw[HN.out];exact XW.out) MF.out wu.out;have hf:=HF.out;have ht:=HT.out;rw[hend,hst]at hf;rw[htk,←uB.out]at ht;have ID:=QA hf;have MC:=QA ht;have Rf:=QA (HB.out.trans Af.out);have LH:Hid ((Qk S (L.take NN)).2.length=(Gi (i+1) [] l).length):=by show _=_;rw[htk,uB.out]
     clear hend htk hst hf ht HF HT hjl;go_wp2
     go_roundw
     case rel=>exact⟨i+1,tn,by have:=XW.out;omega,by rw[LH.out],by go_num,MC.out,ID.out,Rf.out⟩
     case measure=>have:=XW.out;simp[intOf];omega
  ·obtain rfl:n=i:=ω
   have hlt':¬(n:Int)<(n:Int):=ω
   have hf:=HF.out;rw[←HN.out,Qt2 uA.out,HN.out]at hf;have SG:=QA hf;clear hf HF hlt;go_wp2
   go_end0
   exact⟨rfl,SG.out.sub (List.sublist_cons_self _ _),HB.out⟩
theorem Qsr(n:Nat):(madeCells #[ς none 0 0] n).toList=List.replicate n (ς none 0 0):=by
 apply List.ext_getElem?;intro j;rw[List.getElem?_replicate];by_cases hj:j<n
 ·simp[madeCells,hj,Nat.mod_one]
 ·simp[madeCells,hj]
theorem Qtj{w:World}{B:Nat}{R S:List QC}(h:QH w B R)(hS:∀t∈S,t.b=none∧t.H w):QH w B (R++S):=by
 refine⟨fun t ht=>?_,fun t ht k hk=>?_,?_,h.B⟩
 ·rcases List.mem_append.1 ht with ht|ht
  ·exact h.h t ht
  ·exact(hS t ht).2
 ·rcases List.mem_append.1 ht with ht|ht
  ·exact h.ge t ht k hk
  ·rw[(hS t ht).1]at hk;cases hk
 ·rw[List.pairwise_append];refine⟨h.ap,?_,fun s hs t ht=>?_⟩
  ·have:∀(L:List QC),(∀t∈L,t.b=none)→L.Pairwise fun s t=>s.b=none∨s.b≠t.b:=by
    intro L
    induction L with
    |nil=>intro _;exact List.Pairwise.nil
    |cons a L ih=>intro hL;exact List.pairwise_cons.2 ⟨fun t _=>.inl (hL a List.mem_cons_self),ih fun t ht=>hL t (List.mem_cons_of_mem _ ht)⟩
   exact this S fun t ht=>(hS t ht).1
  ·cases hb:s.b with
   |none=>exact .inl rfl
   |some k=>right;rw[(hS t ht).1];simp
theorem ģ(w:World):∀(n:Nat),∀t∈VW (List.replicate n (ς none 0 0)) (List.replicate n []),t.b=none∧t.H w
 |0,t,h=>by cases h
 |n+1,t,h=>by
  rcases List.mem_cons.1 h with rfl|h
  ·exact⟨rfl,World.ownsRow_nil w 0 _ _⟩
  ·exact ģ w n t h
theorem QH.put{w w':World}{B g i:Nat}{R:List QC}{t t':QC}(h:QH w B R)(hg:g<B)(hG:w.grownBy w' (some g))(hi:R[i]?=some t)(ht:t'.H w')(hn:∀k,t'.b=some k→w.heap.size≤k):QH w' B (R.set i t'):=by
 have h5:=QH.YK h hg hG;have hlt:∀s∈R,∀k,s.b=some k→k<w.heap.size:=fun s hs k hk=>(h.lt hs hk).2
 refine⟨fun s hs=>?_,fun s hs k hk=>?_,?_,h5.B⟩
 ·rcases List.mem_or_eq_of_mem_set hs with hs|rfl
  ·exact h5.h s hs
  ·exact ht
 ·rcases List.mem_or_eq_of_mem_set hs with hs|rfl
  ·exact h5.ge s hs k hk
  ·exact QW h.B (hn k hk)
 ·have new:∀s∈R,s.b=none∨s.b≠t'.b:=fun s hs=>by
   cases hb:s.b with
   |none=>exact .inl rfl
   |some k =>
    right
    intro e;have h1:=hlt s hs k hb;have h2:=hn k e.symm;omega
  rw[List.pairwise_iff_getElem];intro a c ha hc cT;have ha':a<R.length:=by simpa using ha
  have hc':c<R.length:=by simpa using hc
  rw[List.getElem_set,List.getElem_set];by_cases Oi:i=a
  ·rw[if_pos Oi,if_neg ω];exact Yk (new _ (List.getElem_mem hc'))
  ·rw[if_neg Oi];by_cases hic:i=c
   ·rw[if_pos hic];exact new _ (List.getElem_mem ha')
   ·rw[if_neg hic];exact List.pairwise_iff_getElem.1 h5.ap a c ha' hc' cT
theorem Vf.drop:∀{n:Nat}{f:F},Vf f→Vf (f.drop n)
 |0,f,h=>h
 |n+1,.nil,_=>by simp[F.drop,Vf]
 |n+1,.cons k x y c r,h=>Vf.drop (n:=n) h.2.2
structure MA(w:World)(l:F)(mv:Value)(n i:Nat)(us:List Value)(Mi:List (List Nat))(D:Dm)(KS:List (List UInt8))(d:List Nd)(W:World):Prop where
 GD:QH W (w.heap.size+1) (Qb 32 1 mv n us::VW us (Mi++List.replicate (n-i) []))
 len:Mi.length=i
 ul:us.length=n
 un:∀j,i≤j→j<n→us[j]?=some (ς none 0 0)
 map:∃nb,JX W w.heap.size nb D∧nb≤(upto i l).size
 km:KM D KS
 NC:KG KS d
 few:d.length≤(upto i l).size
 is:∀j k x y c r,j<i→l.drop j=.cons k x y c r→∃M,Mi[j]?=some M∧M.length=(nodes (one k x y c)).length∧∀(p:Nat)(nd:Nd),(nodes (one k x y c))[p]?=some nd→∃m,M[p]?=some m∧d[m]?=some nd
 QF:Below w.heap.size w W
theorem Qvg{w W W' W2:World}{l:F}{gM cM n i:Nat}{us:List Value}{Mi:List (List Nat)}{D:Dm}{KS Tk:List (List UInt8)}{d d':List Nd}{k:Int}{x y:ByteArray}{c r:F}{nb:Nat}{v:Value}{Ms:List Nat}(h:MA w l (ς (some ⟨gM,0,none⟩) n cM) n i us Mi D KS d W)(hb:Below W.heap.size W W')(hi:i<n)(hd:l.drop i=.cons k x y c r)
 (hm:Tj W' w.heap.size nb d (one k x y c) v W2 Tk d' Ms) (hnb:nb≤(upto i l).size):∃D',MA w l (ς (some ⟨gM,0,none⟩) n cM) n (i+1) (us.set i v) (Mi++[Ms]) D' Tk d' (W2.setCell ⟨gM,i,none⟩ v):=by
 obtain⟨D',Hu,EJ,hk1,hm2⟩:=hm.map;have hup:=(K4 i l k x y c r hd).2.2.1;rw[Q4]at hm2;have hlk:us.length=(Mi++List.replicate (n-i) []).length:=by rw[h.ul,List.length_append,h.len,List.length_replicate];omega
 have zU:(Mi++List.replicate (n-i) ([]:List Nat))[i]?=some []:=by rw[List.getElem?_append_right (by rw[h.len];exact QI _),h.len,Nat.sub_self,List.getElem?_replicate,if_pos ω]
 have hks:(Mi++List.replicate (n-i) ([]:List Nat)).set i Ms=(Mi++[Ms])++List.replicate (n-(i+1)) []:=by rw[List.set_append_right _ _ (by rw[h.len];exact QI _),h.len,Nat.sub_self,show n-i=(n-(i+1))+1 by omega,List.replicate_succ];simp
 have Pe:=h.GD.later hb;have hf2:=QH.put (i:=i+1) (t:=Qb 3 1 (ς none 0 0) 0 []) (t':=Qb 3 1 v Ms.length (Ms.map nv)) Pe (qA _) hm.grown (show(VW us (Mi++List.replicate (n-i) []))[i]?=_ from Xg (h.un i (QI _) hi) zU) (ĵ hm.row) (fun q hq=>Qx8 hm.row q hq);have hst:=hf2.store (i:=0) rfl i v
 have SZ:gM≠w.heap.size:=fun e=>by
  have:=h.GD.ge _ List.mem_cons_self gM rfl;omega
 have hgr:Below w.heap.size w W2:=⟨hm.grown.os.trans (hb.os.trans h.QF.os),hm.grown.tape.trans (hb.tape.trans h.QF.tape),hm.grown.output.trans (hb.output.trans h.QF.output),QW h.QF.size (QW hb.size hm.grown.size),fun q hq=>(hm.grown.block q (VE hq (QW h.QF.size hb.size)) (fun e=>by have:=Option.some.inj e;omega)).trans ((hb.block q (VE hq h.QF.size)).trans (h.QF.block q hq))⟩;refine⟨D',?_,by rw[List.length_append,h.len];rfl,by rw[List.length_set];exact h.ul,fun j hj hjn=>by rw[List.getElem?_set_ne ω];exact h.un j ω hjn,⟨Hu,EJ.kept (Below.heap_setCell _ _ _ _ (fun e=>SZ e.symm)),ω⟩,hk1,hm.NC,by have:=hm.few;rw[Q4]at this;have:=h.few;omega,fun j k' x' y' c' r' hj lI=>?_,hgr.trans (hst.2.mono (Nat.le_succ _))⟩
 ·have e:=Uy us (Mi++List.replicate (n-i) []) i v Ms hlk;rw[hks]at e;rw[←e];exact hst.1
 ·by_cases e:j=i
  ·subst e;rw[hd]at lI;simp only[F.cons.injEq]at lI;obtain⟨rfl,rfl,rfl,rfl,_⟩:=lI;refine⟨Ms,by rw[List.getElem?_append_right (by rw[h.len];exact QI _),h.len,Nat.sub_self];rfl,by rw[hm.len,Qj],hm.is⟩
  ·obtain⟨M,q1,q2,q3⟩:=h.is j k' x' y' c' r' ω lI;refine⟨M,by rw[List.getElem?_append_left (by rw[h.len];omega)];exact q1,q2,fun p nd hp=>?_⟩;obtain⟨m,h1,h2⟩:=q3 p nd hp;exact⟨m,h1,pM hm.pre h2⟩
theorem Qov:Qp6:=by
 intro A n C l w hP hf hl hs hk;obtain⟨i1,hi1,hy0,hy1,hy2⟩:=info_parts Gs;have hn:n=l.len:=by obtain⟨A',C',e,_⟩:=hf.slice;injection e with _ e _
 have hll:=F.QL l;have hn5:n≤45000:=ω
 have hb1:=Qz w (.map #[] 0);have MF:Hid (JX (w.alloc (.map #[] 0)) w.heap.size 0 (.map [])):=World.ownsMap_made w _ _ _;have Z':=QA hb1;have hsz:(w.alloc (.map #[] 0)).heap.size=w.heap.size+1:=ψ
 have XO:=QA hsz;have HN:=QA hn;have HF:=QA hf;have HP:=QA hP;have HL:=QA hl;have HS:=QA hs;have OW:=QA hk;clear hP hf hl hs hk hn hll hb1 hsz;go_enter Tryz.func38,Tryz.ntmps38;go_wp2_with fail;rw[run_makeMap];go_wp2_with (at_make;refine wpList_make_full _ rfl _ _ 33 rfl 0 32 i1 (ς none 0 0) 1 Tryz.underlying33 hi1 hy0 hy1 _ _ _ _ n rfl rfl rfl rfl (by rw[hy2];omega) (by unfold maxLen;omega) (ZR _) ?_);intro w2 EI hg2;rw[show(madeCells #[ς none 0 0] n).toList=List.replicate n (ς none 0 0)from Qsr n]at EI;obtain⟨gM,I0⟩:=Mem.QD (w.heap.size+1);rw[I0]at EI⊢;have hf2:QH w2 (w.heap.size+1) (Qb 32 1 (ς (some ⟨gM,0,none⟩) n n) n (List.replicate n (ς none 0 0))::VW (List.replicate n (ς none 0 0)) (List.replicate n [])):=by have h0:=(QH.nil (w.alloc (.map #[] 0))).cons (t:=Qb 32 1 (ς (some ⟨gM,0,none⟩) n n) n (List.replicate n (ς none 0 0))) hg2 EI (fun q hq=>by have hq:some gM=some q:=hq;injection hq with hq;have:=XO.out;omega);have h1:=Qtj h0 (ģ w2 n);rw[XO.out]at h1;exact h1
 have Ny:Below (w.alloc (.map #[] 0)).heap.size (w.alloc (.map #[] 0)) w2:=⟨hg2.os,hg2.tape,hg2.output,hg2.size,fun q hq=>hg2.block q hq ψ⟩;have jb:Hid (MA w l (ς (some ⟨gM,0,none⟩) n n) n 0 (List.replicate n (ς none 0 0)) [] (.map []) [] [] w2):=by refine⟨hf2,rfl,List.length_replicate,fun j _ hj=>by rw[List.getElem?_replicate,if_pos hj],⟨0,MF.out.kept (Ny.block _ (by rw[XO.out];exact qA _)),ZR _⟩,KM.nil,KG.nil,ZR _,fun j k x y c r hj=>ω,Z'.out.trans (Ny.mono Z'.out.size)⟩
 clear EI hg2 I0 hf2 Ny MF Z' XO;go_wp2
 go_loopw [13] (fun EU wr=>∃(i:Nat)(us:List Value)(Mi:List (List Nat))(D:Dm)(KS:List (List UInt8))(d:List Nd),i≤n∧EU=ι γ (i:Int)∧Hid (MA w l (ς (some ⟨gM,0,none⟩) n n) n i us Mi D KS d wr)) (fun s _=>n-(intOf s).toNat)
 case atStart=>exact⟨0,_,[],_,[],[],ZR _,rfl,jb.out⟩
 case round =>
  clear jb;obtain⟨i,us,Mi,D,KS,d,hi,rfl,HI⟩:=hrel;by_cases hlt:i<n
  ·have hlt':(i:Int)<(n:Int):=ω
   have xg:(0:Int)≤(i:Int):=ω
   obtain⟨k,x,y,c,r,hdr,_⟩:=F.drop_cons (n:=i) (f:=l) (by rw[←HN.out];exact hlt);have XM:Fs wr (Lo w.heap.size) (ς A n C) l:=HF.out.below HI.out.QF (QI _);obtain⟨b,off,s,rfl,gj,_,hat⟩:=XM.at_ hdr;obtain⟨As,Cs,rfl,_,_⟩:=hat.kids.slice;have e0:=hat.c0;have e1:=hat.c1;have e2:=hat.c2;have e3:=hat.c3;have JF:=Qz wr (θ #[ι γ k,σ x,σ y,ς As c.len Cs] 24);have hup:=(K4 i l k x y c r hdr).2.2.1;have Lz:=Uh (i+1) l;have Oa:=HS.out.drop (n:=i);have FC:=OW.out.drop (n:=i);rw[hdr]at Oa FC;obtain⟨s1,s2,s3,_⟩:=Oa;obtain⟨k1,k2,_⟩:=FC;obtain⟨nb,hmp,hnb⟩:=HI.out.map;have Nq:w.heap.size<wr.heap.size:=World.ownsMap.lt hmp;have aZ:=QA (Qix k x y As c.len Cs c (wr.alloc (θ #[ι γ k,σ x,σ y,ς As c.len Cs] 24)) w.heap.size nb D KS d
    ((hat.kids.up (show w.heap.size≤wr.heap.size from HI.out.QF.size)).later JF) (by have:=HL.out;omega) ⟨s1,s2,s3,trivial⟩ ⟨k1,k2,trivial⟩ (hmp.kept (JF.block _ Nq)) HI.out.km HI.out.NC (by have:=HL.out;omega) (by have:=HI.out.few;have:=HL.out;omega) (HP.out.on (HI.out.QF.trans (JF.mono HI.out.QF.size))))
   have KB:=QA JF;have uT:=QA hdr;have qW:=QA hnb;have XW:=QA hlt;obtain⟨ln,YO⟩:=Mem.QD (c.len);rw[YO]at e3 aZ KB;clear hdr XM gj hat JF hup Lz s1 s2 s3 k1 k2 hmp hnb Nq YO hlt;go_wp2_with fail;refine aZ.out.mono ?_;rintro e w5 ⟨v5,KS5,d5,Ms5,rfl,Fv⟩;obtain⟨a5,c5,rfl,_,_⟩:=Q0 Fv.row;obtain⟨D5,Bo⟩:=Qvg HI.out KB.out XW.out uT.out Fv qW.out;have jb:=QA Bo;have hgc:w5.cell? ⟨gM,i,none⟩=some (ς none 0 0):=by have h1:=QH.YK (HI.out.GD.later KB.out) (qA _) Fv.grown;exact h1.cell (i:=0) rfl (HI.out.un i (QI _) XW.out)
   have hgf:w5.frozen? ⟨gM,i,none⟩=false:=by have h1:=QH.YK (HI.out.GD.later KB.out) (qA _) Fv.grown;exact h1.JO (i:=0) rfl i
   clear Bo Fv HI aZ KB e0 e1 e2 e3;go_wp2
   go_roundw
   case rel=>exact⟨i+1,_,_,D5,KS5,d5,by have:=XW.out;omega,by go_num,jb.out⟩
   case measure=>have:=XW.out;simp[intOf];omega
  ·obtain rfl:n=i:=ω
   have hlt':¬(n:Int)<(n:Int):=ω
   obtain⟨nb,hmp,hnb⟩:=HI.out.map;have SC:Hid (wr.ownsMap Tryz.prog 9 (plainElem Tryz.prog 3) w.heap.size nb D):=hmp;have Mh:=HI.out.GD;rw[Nat.sub_self,List.replicate_zero,List.append_nil]at Mh
   have MG:Hid (OJ d l Mi):=⟨by rw[HI.out.len,HN.out],fun j k x y c r hd=>HI.out.is j k x y c r (by
    rcases Nat.lt_or_ge j n with h|h
    ·exact h
    ·rw[F.JG j l (by rw[←HN.out];exact h)]at hd;cases hd) hd⟩
   have ID:=QA Mh;have Pp:Hid (Maps.size D=d.length):=by show _=_;rw[HI.out.km.size,HI.out.NC.len]
   have xC:d.length≤45000:=by have:=HI.out.few;have:=Uh n l;have:=HL.out;omega
   have rV:=QA (Qgk wr (w.heap.size+1) l (some ⟨gM,0,none⟩) n n us Mi d HI.out.NC.nodup MG.out ID.out HN.out.symm HI.out.ul HL.out ω);have II:=QA HI.out.QF;have rR:Hid (us.length=l.len):=by show _=_;rw[HI.out.ul,HN.out]
   clear hmp hnb Mh HI hlt MG ID;go_wp2_with (at_len;refine wpList_len_own _ rfl _ 88 rfl 9 3 Tryz.underlying88 _ w.heap.size nb D rfl SC.out ?_);rw[Pp.out];go_wp2_with fail;refine rV.out.mono ?_;rintro e w6 ⟨rfl,Sy,VH⟩;have Bf:=QA Sy;have GG:=QA (II.out.trans (VH.mono (Nat.le_succ _)));clear Sy VH rV SC;go_wp2;go_ret;refine⟨GG.out,_,rfl,?_⟩;exact(ÿ (m:=0) Bf.out (i:=0) (by rw[rR.out,HN.out];rfl) (by rw[J0];exact rR.out) fun j u l' hj hk=>⟨j+1,Xg hj hk⟩).more fun b hb=>⟨by have:=hb.1;omega,hb.2⟩
