import Derived.Test.YtmepekognmlblaaGreatDoorS14
import Derived.Test.YtmepekognmlblaaGreatDoorS21
import Derived.StillTailTactics
import Derived.RegionTactic
import Derived.Deep.Draws
import Derived.Laws.EntriesVeiled
set_option maxHeartbeats 8000000
set_option maxRecDepth 100000
set_option linter.unusedVariables false
open Go.RowKit Go.ChangeShapes Go.WideShapes Go.ChangeAt
open _root_.Bool renaming and_eq_true→Th
open _root_.List renaming getD_eq_getElem?_getD→QX,length_map→VD,getElem?_eq_getElem→QN
open Go.Lib renaming hid→QA
open _root_.Nat renaming lt_of_lt_of_le→VE
open Go.Value renaming string→σ,int→ι,slice→ς,pointer→π,bool→τ,agg→ξ
open Go.IntKind renaming i64→γ
open Go.Obj renaming cells→θ
open Go.Ending renaming returned→ρ
namespace Go.Proofs.YtmepekognmlblaaGreatDoor
namespace Match
open Tree Shape
def XJ(T:F):Sd:=⟨T,(Qk [] (nodes T)).1⟩
def XZ(T T':F):Sd:=⟨T',(Qk (Qk [] (nodes T)).2 (nodes T')).1⟩
theorem fy{T T':F}(h:∃k x y c,T=one k x y c)(h':∃k x y c,T'=one k x y c):ZM (XJ T) (XZ T T'):=by
 refine⟨h,h',fun x y hx hy=>?_⟩;have ha:=Sd.ZK hx;have hb:=Sd.ZK hy;have l1:(Qk [] (nodes T)).1.length=(nodes T).length:=Z0 _ _;have l2:(Qk (Qk [] (nodes T)).2 (nodes T')).1.length=(nodes T').length:=Z0 _ _;have e1:(Qk [] (nodes T)).1[x]?=some ((XJ T).no x):=by
  have hx':x<(Qk [] (nodes T)).1.length:=by rw[l1];exact hx
  unfold Sd.no XJ;rw[QX,List.getElem?_eq_getElem hx'];rfl
 have e2:(Qk (Qk [] (nodes T)).2 (nodes T')).1[y]?=some ((XZ T T').no y):=by
  have hy':y<(Qk (Qk [] (nodes T)).2 (nodes T')).1.length:=by rw[l2];exact hy
  unfold Sd.no XZ;rw[QX,List.getElem?_eq_getElem hy'];rfl
 have:=Qiw ha hb e1 e2;unfold JU;rw[beq_iff_eq];exact this
def Eb(T:F):List Int:=(nodes T).map (·.k)
theorem ĺ{T:F}{x:Nat}{s:Sd}(hs:s.T=T)(hx:x<s.n):(Eb T).getD x 0=(s.at_ x).k:=by
 have:=Sd.ZK hx;unfold Sd.nd at this;rw[hs]at this;unfold Eb;rw[QX,List.getElem?_map,this];rfl
theorem Qbv(M:List Int):Ki M=(List.range' 0 M.length).flatMap fun x=>if 0≤M.getD x 0 then[((x:Int),M.getD x 0)]else[]:=by unfold Ki;rw[List.range_eq_range']
theorem ic{a b:Sd}{M:St}(h:Part a b M):∀(m i:Nat)(last:Int)(used:List Int),i+m=a.n→last<(i:Int)→(∀v∈used,∃x' y',x'<i∧v=((y':Nat):Int)∧Pd M.1 x' y')→
 X7 (Eb a.T) (Eb b.T) last used ((List.range' i m).flatMap fun x=>if 0≤M.1.getD x 0 then[((x:Int),M.1.getD x 0)]else[])=true
 |0,i,last,used,_,_,_=>rfl
 |m+1,i,last,used,hm,hl,hu=>by
  rw[List.range'_succ,List.flatMap_cons];have hi:i<a.n:=ω
  rcases h.s1 i hi with hf|⟨y,hy⟩
  ·rw[if_neg (by unfold QQ at hf;rw[decide_eq_true_eq]at hf;omega),List.nil_append];refine ic h m (i+1) last used ω ω fun v hv=>?_
   obtain⟨x',y',h1,h2⟩:=hu v hv;exact⟨x',y',ω,h2⟩
  ·have he:M.1.getD i 0=((y:Nat):Int):=by rw[QX,hy];rfl
   rw[he,if_pos ω,List.singleton_append];have Fh:=(h.lt hy).2;unfold X7;rw[Th];refine⟨?_,ic h m (i+1) _ _ ω ω fun v hv=>?_⟩
   ·unfold Kj;have Wt:(Eb a.T).length=a.n:=by unfold Eb;rw[VD];rfl
    have hlb:(Eb b.T).length=b.n:=by unfold Eb;rw[VD];rfl
    simp only[Th,decide_eq_true_eq,Wt,hlb,Int.toNat_natCast];refine⟨⟨⟨⟨⟨hl,ω⟩,ω⟩,ω⟩,?_⟩,?_⟩
    ·rw[Bool.not_eq_true',List.contains_eq_mem,decide_eq_false_iff_not];intro hc;obtain⟨x',y',h1,h2,h3⟩:=hu _ hc;obtain rfl:y'=y:=ω
     have:=((h.two _ _).1 h3).eq ((h.two _ _).1 hy);omega
    ·rw[ĺ rfl hi,ĺ rfl Fh];exact h.kind _ _ hy
   ·rcases List.mem_cons.1 hv with rfl|hv
    ·exact⟨i,y,ω,rfl,hy⟩
    ·obtain⟨x',y',h1,h2⟩:=hu v hv;exact⟨x',y',ω,h2⟩
theorem Qih{a b:Sd}{M:St}(h:Part a b M)(h0:Pd M.1 0 0):Z9 (Eb a.T) (Eb b.T) (Ki M.1)=true:=by
 unfold Z9;rw[Th];have hn:=(h.lt h0).1;have hL:M.1.length=a.n:=h.l1
 constructor
 ·rw[Qbv,hL];obtain⟨m,hm⟩:∃m,a.n=m+1:=⟨a.n-1,ω⟩;have he:M.1.getD 0 0=0:=by rw[QX,h0];rfl
  rw[hm,List.range'_succ,List.flatMap_cons,he];simp
 ·rw[Qbv,hL];exact ic h a.n 0 (-1) [] ω ω fun v hv=>by cases hv
theorem Qss{a b:Sd}(hn:ZM a b)(hk:(a.at_ 0).k=(b.at_ 0).k)(rt:Bool):Ext (M1 a b) (V4 a b rt):=by
 obtain⟨h1,h2⟩:=yw hn hk;obtain⟨g1,g2,_⟩:=Gy hn (a.kid 0) (M1 a b) h1 (iU a 0) fun x hx=>⟨hx,bX hn hk hx⟩
 unfold V4;cases rt with
 |false=>rw[if_neg δ];obtain⟨b1,b2⟩:=J2 hn a.n (M1 a b) 0 ω h1;exact b2.trans (Ut hn b1).2
 |true=>rw[if_pos rfl];obtain⟨b1,b2⟩:=J2 hn a.n _ 0 ω g1;exact g2.trans (b2.trans (Ut hn b1).2)
end Match
namespace Match
open Mem
def Fb(p:P2):List Value:=[ι γ p.1,ι γ p.2]
theorem fk:∀(L:List P2)(i:Nat)(p:P2),L[i]?=some p→(L.flatMap Fb)[i*2]?=some (ι γ p.1)∧(L.flatMap Fb)[i*2+1]?=some (ι γ p.2)
 |[],i,p,h=>by simp at h
 |q::r,0,p,h=>by
  simp only[List.getElem?_cons_zero,Option.some.injEq]at h;subst h;exact⟨rfl,rfl⟩
 |q::r,i+1,p,h=>by
  have:=fk r i p (by simpa using h);rw[List.flatMap_cons,show(i+1)*2=i*2+1+1 by omega];simpa[Fb]using this
def Qm(w:World)(S:Nat→Prop)(v:Value)(L:List P2):Prop:=∃A c,v=ς A L.length c∧L.length≤c∧c≤maxLen∧Vx w S A (L.flatMap Fb)
section
variable {w w':World}{S S':Nat→Prop}{A:Option Addr}{L:List P2}{v:Value}{c n:Nat}
theorem Qm.keep(h:Qm w S v L)(hb:∀b,S b→w'.heap[b]?=w.heap[b]?):Qm w' S v L:=by
 obtain⟨A,c,e,h1,h2,h3⟩:=h;exact⟨A,c,e,h1,h2,h3.keep hb⟩
theorem Qm.more(h:Qm w S v L)(hs:∀b,S b→S' b):Qm w S' v L:=by
 obtain⟨A,c,e,h1,h2,h3⟩:=h;exact⟨A,c,e,h1,h2,h3.more hs⟩
theorem Qm.later(h:Qm w (fun b=>b<w.heap.size) v L)(hb:Below w.heap.size w w'):Qm w' (fun b=>b<w'.heap.size) v L :=
 (h.keep fun b hb'=>hb.block b hb').more fun b hb'=>Nat.lt_of_lt_of_le hb' hb.size
theorem Qm.slice(h:Qm w S v L):∃A c,v=ς A L.length c:=by
 obtain⟨A,c,e,_⟩:=h;exact⟨A,c,e⟩
theorem Qm.at_(h:Qm w S (ς A n c) L){i:Nat}{p:P2}(hi:L[i]?=some p) :
 ∃b off,A=some ⟨b,off,none⟩∧S b∧w.cell? ⟨b,off+i*2,none⟩=some (ι γ p.1)∧w.cell? ⟨b,off+i*2+1,none⟩=some (ι γ p.2):=by
 obtain⟨A',c',e,h1,h2,h3⟩:=h;injection e with e1 e2 e3;subst e1;obtain⟨k0,k1⟩:=fk L i p hi;obtain⟨b,off,rfl,hS,hc⟩:=h3.at_ k0;obtain⟨b',Ni,e',_,hc'⟩:=h3.at_ k1;injection e' with e';injection e' with e1 e2;subst e1;subst e2;exact⟨b,off,rfl,hS,hc,by rw[Nat.add_assoc];exact hc'⟩
end
open Tree
def ZY(W:World)(g:Nat)(e:TypeId)(xs:List Value):Prop:=W.heap[g]?=some (θ xs.toArray e (0,0))
section
variable {W W':World}{g:Nat}{e:TypeId}{xs:List Value}
theorem ZY.lt(h:ZY W g e xs):g<W.heap.size:=(Array.getElem?_eq_some_iff.1 h).1
theorem ZY.at_(h:ZY W g e xs){i:Nat}{v:Value}(hi:xs[i]?=some v):W.cell? ⟨g,i,none⟩=some v:=by
 have h:W.heap[g]?=some (θ xs.toArray e (0,0)):=h;simp[World.cell?,h,hi]
theorem ZY.free(h:ZY W g e xs)(i:Nat):W.frozen? ⟨g,i,none⟩=false:=by
 have h:W.heap[g]?=some (θ xs.toArray e (0,0)):=h;simp[World.frozen?,h]
theorem ZY.set(h:ZY W g e xs){i:Nat}(hi:i<xs.length)(v:Value):ZY (W.setCell ⟨g,i,none⟩ v) g e (xs.set i v):=by
 have:=Z8 (w:=W) h i v;show(W.setCell ⟨g,i,none⟩ v).heap[g]?=_;rw[this,List.setIfInBounds_toArray]
theorem ZY.keep(h:ZY W g e xs)(hb:Below W.heap.size W W'):ZY W' g e xs:=(hb.block g h.lt).trans h
theorem ZY.drew(h:ZY W g e xs):ZY W.drew g e xs:=h
end
def iV(l:List Int):List Value:=l.map fun(v:Int)=>ι γ v
theorem Xh(l:List Int):(iV l).length=l.length:=by simp[iV]
theorem bJ{l:List Int}{i:Nat}{v:Int}(h:l[i]?=some v):(iV l)[i]?=some (ι γ v):=by simp[iV,h]
theorem bT(l:List Int)(i:Nat)(v:Int):(iV l).set i (ι γ v)=iV (l.set i v):=by unfold iV;rw[List.map_set]
theorem Zq:(Tryz.prog.info? 3).map (fun i=>(i.zero,i.size,i.bytes))=some (some (ι γ 0),1,8):=χ
theorem Jg(n:Nat)(hn:n≤1000000)(w:World):(Instr.makeSlice 32 (ι γ (n:Int)) (ι γ (n:Int))).run Tryz.prog w=.ok (ς (some ⟨w.heap.size,0,none⟩) n n) (w.alloc (θ (iV (List.replicate n 0)).toArray 3)):=by
 obtain⟨i0,hi0,hz0,hz1,hz2⟩:=info_parts Zq;have h:=run_make (P:=Tryz.prog) w 32 3 i0 (ι γ 0) Tryz.underlying32 hi0 hz0 γ γ n n ω (Int.le_refl _) (by rw[hz2];omega) ω;rw[h];simp only[Int.toNat_natCast]
 congr 2
 have:madeCells (ι γ 0).cells (n*i0.size)=(iV (List.replicate n 0)).toArray:=by rw[hz1,Nat.mul_one];apply Array.toList_inj.1;have:=toList_madeCells_one (ι γ 0) n;simp only[Value.cells];rw[this];simp[iV]
 rw[this]
def Yp(n i:Nat):List Int:=List.replicate i (-1)++List.replicate (n-i) 0
theorem ų{n i:Nat}(h:i≤n):(Yp n i).length=n:=by simp[Yp];omega
theorem Qpe{n i:Nat}(h:i<n):(Yp n i).set i (-1)=Yp n (i+1):=by
 unfold Yp;rw[List.set_append_right _ _ ψ];simp only[List.length_replicate,Nat.sub_self];obtain⟨m,hm⟩:∃m,n-i=m+1:=⟨n-i-1,ω⟩;rw[hm,show n-(i+1)=m by omega,List.replicate_succ,List.set_cons_zero,List.replicate_succ',List.append_assoc];rfl
theorem Qpf(n:Nat):Yp n n=List.replicate n (-1):=by simp[Yp]
theorem Qlx(n:Nat):Yp n 0=List.replicate n 0:=by simp[Yp]
theorem Qkd{n:Nat}{L:List P2}{j:Nat}{p:P2}(h:L[j]?=some p):(Yu n (L.take j)).set p.1.toNat p.2=Yu n (L.take (j+1)):=by
 unfold Yu;rw[List.take_add_one,h,List.foldl_append];rfl
theorem Zn{B:Nat}{w w':World}(h:Below B w w'){b:Nat}(hb:B≤b)(i:Nat)(v:Value):Below B w (w'.setCell ⟨b,i,none⟩ v):=h.setCell (p:=⟨b,i,none⟩) hb v
theorem Q8(w:World):Below w.heap.size w w.drew:=⟨rfl,rfl,rfl,Nat.le_refl _,fun _ _=>rfl⟩
theorem Qob(n:Nat)(A:Option Addr)(C:Nat)(L:List P2)(w:World)(hl:Qm w (Lo w.heap.size) (ς A L.length C) L)(hn:n≤100000)(hr:∀p∈L,0≤p.1∧p.1<(n:Int))(hL:L.length≤1000000) :
 Calls Tryz.prog 18 #[ι γ (n:Int),ς A L.length C] w fun e w'=>Below w.heap.size w w'∧∃g,w.heap.size≤g∧e=ρ (ς (some ⟨g,0,none⟩) n n)∧ZY w' g 3 (iV (Yu n L)):=by
 have hmk:=Jg n ω w;have b1:=Qz w (θ (iV (List.replicate n 0)).toArray 3);have Z':=QA b1;have HK:Hid (ZY (w.alloc (θ (iV (List.replicate n 0)).toArray 3)) w.heap.size 3 (iV (Yp n 0))):=by rw[Qlx];exact heap_alloc_new w _
 have HL:=QA hl;have HR:=QA hr;clear hl hr b1;obtain⟨M,hM⟩:=Mem.QD (L.length);have HM:=QA hM;rw[hM]at hL HL⊢;clear hM;go_enter Tryz.func18,Tryz.ntmps18;go_wp2;clear hmk;obtain⟨w0,hw0⟩:=Mem.QD (w.alloc (θ (iV (List.replicate n 0)).toArray 3));obtain⟨g,hg⟩:=Mem.QD (w.heap.size);have HG:=QA hg;rw[hw0]at Z' HK⊢;rw[hg]at HK⊢;clear hw0 hg
 go_loopw [6] (fun s6 wr=>∃i:Nat,i≤n∧s6=ι γ (i:Int)∧Hid (ZY wr g 3 (iV (Yp n i)))∧Hid (Below w.heap.size w wr)) (fun s _=>n-(intOf s).toNat)
 case atStart=>exact⟨0,Nat.zero_le _,rfl,HK,Z'⟩
 case round =>
  clear HK Z';obtain⟨i,hi,rfl,HK,HB⟩:=hrel;by_cases hlt:i<n
  ·have hlt':(i:Int)<(n:Int):=ω
   have KZ:(0:Int)≤(i:Int):=ω
   obtain⟨vd,kA⟩:∃v,(iV (Yp n i))[i]?=some v:=⟨_,QN (by rw[Xh,ų hi];exact hlt)⟩;have Nv:=HK.out.at_ kA;have Mj:=HK.out.free i;clear kA;go_wp2
   go_roundw
   case rel=>exact⟨i+1,ω,by go_num,(by have h1:=HK.out.set (i:=i) (by rw[Xh,ų hi];exact hlt) (ι γ (-1));rw[bT,Qpe hlt]at h1;exact h1),Zn HB.out (by have:=HG.out;omega) _ _⟩
   case measure=>simp[intOf];omega
  ·obtain rfl:n=i:=ω
   have hlt':¬(n:Int)<(n:Int):=ω
   clear hlt;go_wp2;have EP:Hid (ZY wr g 3 (iV (Yu n (L.take 0)))):=by have:=HK.out;rw[Qpf]at this;exact this
   have Pw:=QA HB.out;clear HK HB;obtain⟨wm,H6⟩:∃wm,wm=wr:=⟨_,rfl⟩;rw[←H6]at EP Pw⊢;clear H6
   go_loopw [7] (fun s7 W=>∃j:Nat,j≤M∧s7=ι γ (j:Int)∧Hid (ZY W g 3 (iV (Yu n (L.take j))))∧Hid (Below w.heap.size w W)) (fun s _=>M-(intOf s).toNat)
   case atStart=>exact⟨0,Nat.zero_le _,rfl,EP,Pw⟩
   case round =>
    clear EP Pw;obtain⟨j,hj,rfl,HK,HB⟩:=hrel;by_cases hlt:j<M
    ·have hlt':(j:Int)<(M:Int):=ω
     have mY:(0:Int)≤(j:Int):=ω
     have XW:=QA hlt;obtain⟨⟨x,y⟩,hp⟩:∃p,L[j]?=some p:=⟨_,QN (by rw[HM.out];exact hlt)⟩;have nH:=HR.out _ (List.mem_of_getElem? hp);obtain⟨xn,rfl⟩:∃xn:Nat,x=(xn:Int):=⟨x.toNat,by have:=nH.1;simp only at this;omega⟩;simp only at nH;obtain⟨b,o,rfl,_,c0,c1⟩:=Qm.at_ (HL.out.later HB.out) hp;simp only at c0 c1;have HP:=QA hp;have SQ:xn<n:=ω
     have nR:(0:Int)≤(xn:Int):=ω
     have SP:(xn:Int)<(n:Int):=ω
     obtain⟨vd,kA⟩:∃v,(iV (Yu n (L.take j)))[xn]?=some v:=⟨_,QN (by rw[Xh,Qe5];exact SQ)⟩;have HVD:=QA kA;have yP:=QA SQ;clear hp nH kA;go_wp2
     go_still_tail 12,χ
     change wpList _ _ _ _ _ wr.drew;clear c0 c1;have Nv:=HK.out.drew.at_ HVD.out;have Mj:=HK.out.drew.free xn;have Re:=QA HK.out.drew;have zI:Hid (Below w.heap.size w wr.drew):=HB.out.trans ((Q8 wr).mono HB.out.size);clear HK HB;generalize wr.drew=wd at *;go_wp2
     go_roundw
     case rel=>exact⟨j+1,(by have:=XW.out;omega),by go_num,(by have h1:=Re.out.set (i:=xn) (by rw[Xh,Qe5];exact yP.out) (ι γ y);rw[bT]at h1;have h2:=Qkd (n:=n) HP.out;simp only[Int.toNat_natCast]at h2;rw[h2]at h1;exact h1),Zn zI.out (by have:=HG.out;omega) _ _⟩
     case measure=>have:=XW.out;simp[intOf];omega
    ·obtain rfl:M=j:=ω
     have hlt':¬(M:Int)<(M:Int):=ω
     have HKE:Hid (ZY wr g 3 (iV (Yu n L))):=by have:=HK.out;rw[List.take_of_length_le (by rw[HM.out];exact Nat.le_refl _)]at this;exact this
     clear hlt HK;go_wp2;go_ret;exact⟨HB.out,g,by have:=HG.out;omega,rfl,HKE.out⟩
end Match
namespace Tree
open Mem
def fO(N:Nat):Prop:=∀(k:Int)(x y:ByteArray)(A:Option Addr)(n C:Nat)(c:F)(w:World),c.size≤N→c.size≤1000000000→Fs w (Lo w.heap.size) (ς A n C) c→
 Calls Tryz.prog 25 #[ξ #[ι γ k,σ x,σ y,ς A n C]] w fun e w'=>e=ρ (ι γ ((c.size+1:Nat):Int))∧Below w.heap.size w w'
structure bz(w wr:World)(A:Option Addr)(n C:Nat)(f:F)(m BO:Nat):Prop where
 QF:Below w.heap.size w wr
 fs:Fs wr (Lo w.heap.size) (ς A n C) f
 eq:m+f.size=BO
theorem Qn6(N:Nat)(ih:∀M,M<N→fO M):fO N:=by
 intro k x y A n C c w hN hbig hf;have Sm:=Lib.hid ih;have b1:=Qa w (θ #[ι γ k,σ x,σ y,ς A n C] 24);have HM:Hid (bz w (w.alloc (θ #[ι γ k,σ x,σ y,ς A n C] 24)) A n C c 1 (c.size+1)):=⟨b1,hf.below b1 (Nat.le_refl _),ω⟩;have htot:c.size+1≤1000000001:=ω
 obtain⟨BO,ht⟩:=Mem.QD (c.size+1);rw[ht]at htot HM⊢;clear ih hf b1 hbig;go_enter Tryz.func25,Tryz.ntmps25;go_wp2
 go_loopg [3,4] (c.size+1) (fun p s3 s4 wr=>∃(m:Nat)(A:Option Addr)(n C:Nat)(f:F),f.size<p∧f.size≤N∧m≤BO∧s3=ι γ (m:Int)∧s4=ς A n C∧Hid (bz w wr A n C f m BO))
 case atStart=>exact⟨1,A,n,C,c,ω,hN,ω,rfl,rfl,HM.out⟩
 case round =>
  clear HM hN ht;obtain⟨m,A,n,C,f,hsz,hN,hm,rfl,rfl,HM⟩:=hrel;cases Rj:f with
  |nil =>
   rw[Rj]at HM;obtain⟨A0,C0,e,_,_⟩:=HM.out.fs.slice;injection e with e1 e2 e3;simp only[F.len]at e2;subst e2;have HE:Hid (m=BO):=by show m=BO;have:=HM.out.eq;simpa[F.size]using this
   clear e1 e3 Rj;go_wp2;go_ret;exact⟨by rw[←HE.out];rfl,HM.out.QF⟩
  |cons k1 x1 y1 c1 r1 =>
   rw[Rj]at HM hsz hN;obtain⟨b,off,s1,rfl,FK,hn0,hat⟩:=HM.out.fs.at_ (i:=0) rfl;obtain⟨A1,C1,rfl,Lg,mU⟩:=hat.kids.slice;have Px:=Lib.hid hat;obtain⟨qc,Ld,RS,hrl,hr⟩:=HM.out.fs.tail;obtain⟨A',n',C',hsl,en,eC,hA'⟩:=Ju b off n C qc Ld;have hr2:=hr A' hA';rw[←en,←eC]at hr2;rw[←en]at hrl;have XQ:=Lib.hid hr2;have NQ:=Lib.hid hrl;have mG:(0:Int)<(n:Int):=ω
   have heq:=HM.out.eq;simp only[F.size]at heq hsz hN;have LN:Hid (b<w.heap.size):=FK;have FT:C'≤9223372036854775807:=ω
   have hn':n'≤1000000001:=by have:=F.QL r1;omega
   clear Rj hat hr hr2 hrl hA' en eC FK;go_wp2
   go_loopw [3,21] (fun s3 i wr2=>∃(j m2:Nat),j≤n'∧i=ι γ (j:Int)∧s3=ι γ (m2:Int)∧m2≤BO∧Hid (m2+(r1.drop j).size=m+1+r1.size)∧Hid (Below wr.heap.size wr wr2)) (fun _ i _=>n'-(intOf i).toNat)
   case atStart=>exact⟨0,m+1,Nat.zero_le _,rfl,by go_num,ω,rfl,Below.refl _ _⟩
   case round =>
    obtain⟨j,m2,hj,rfl,rfl,hm2,KL,ZT⟩:=hrel;have SR:=HM.out.QF.trans (ZT.out.mono HM.out.QF.size);by_cases hlt:j<n'
    ·obtain⟨kk,kx,ky,kc,kr,hdr,YZ⟩:=F.drop_cons (n:=j) (f:=r1) (by rw[NQ.out];exact hlt);obtain⟨b2,UW,s2,rfl,PO,_,VA⟩:=XQ.out.at_ hdr;obtain⟨Ak,Ck,rfl,_,_⟩:=VA.kids.slice;have hb2:b2<wr.heap.size:=VE PO SR.size;have PN:=VE PO HM.out.QF.size;have e0:=(ZT.out.cell (p:=⟨b2,UW+j*4,none⟩) PN).trans VA.c0;have e1:=(ZT.out.cell (p:=⟨b2,UW+j*4+1,none⟩) PN).trans VA.c1;have e2:=(ZT.out.cell (p:=⟨b2,UW+j*4+2,none⟩) PN).trans VA.c2;have e3:=(ZT.out.cell (p:=⟨b2,UW+j*4+3,none⟩) PN).trans VA.c3;have hlt':(j:Int)<(n':Int):=ω
     have Mf:(0:Int)≤(j:Int):=ω
     have LU:=Ge hdr;have bk:=Qa wr (θ #[ι γ kk,σ kx,σ ky,ς Ak kc.len Ck] 24);have hb3:=SR.trans (bk.mono SR.size);have SX:m2+(kc.size+kr.size+1)=m+1+r1.size:=by have:=KL.out;rw[hdr]at this;simpa[F.size]using this
     have HC:=Lib.hid (Sm.out kc.size ω kk kx ky Ak kc.len Ck kc _ (Nat.le_refl _) ω (((VA.kids.below ZT.out HM.out.QF.size).below (bk.mono SR.size) (Nat.le_refl _)).up hb3.size));have uT:Hid (m2+(kc.size+1)+(r1.drop (j+1)).size=m+1+r1.size):=by show _=_;rw[YZ];omega
     have VG:=VO ZT bk;have Nt:m2+(kc.size+1)≤BO:=ω
     clear hdr YZ PO VA bk KL LU hb3;obtain⟨ks,hks⟩:=Mem.QD (kc.size+1);rw[hks]at HC uT Nt;clear SX hks;go_wp2_with fail;refine c₁ HC.out fun wk hbk=>?_;have KF:=VO VG hbk;clear hbk;go_wp2
     go_roundw
     case rel=>exact⟨j+1,m2+ks,ω,by go_num,by go_num,Nt,uT.out,KF.out⟩
     case measure=>simp[intOf];omega
    ·have Q2l:¬(j:Int)<(n':Int):=ω
     obtain rfl:j=n':=ω
     have SX:m2=m+1+r1.size:=by have:=KL.out;rw[F.JG _ _ (by rw[NQ.out];exact Nat.le_refl _)]at this;simpa[F.size]using this
     have hbl:b<wr.heap.size:=VE LN.out SR.size;obtain⟨q0,q1,q2,q3⟩:=p7 Px.out ZT.out (VE LN.out HM.out.QF.size);have SD:Hid (bz w wr A1 c1.len C1 c1 m2 BO):=⟨SR,Px.out.kids.below ZT.out HM.out.QF.size,ω⟩;clear KL SX heq;go_wp2
     go_roundg (c1.size+1)
     case measure=>omega
     case rel=>exact⟨m2,A1,c1.len,C1,c1,ω,ω,hm2,rfl,rfl,SD.out⟩
theorem Œ(N:Nat):fO N:=by
 induction N using Nat.strongRecOn with
 |_ N ih=>exact Qn6 N ih
theorem Qkt(N:Nat):iO N:=by
 induction N using Nat.strongRecOn with
 |_ N ih=>exact Qib N ih
theorem ŧ(k:Int)(x y:ByteArray)(A:Option Addr)(n C:Nat)(c:F)(w:World)(hf:Fs w (Lo w.heap.size) (ς A n C) c)(hx:x.size≤1000000)(hy:y.size≤1000000)(hsm:Zp c)(hT:Lex.XF w) :
 Calls Tryz.prog 28 #[ξ #[ι γ k,σ x,σ y,ς A n C]] w fun e w'=>e=ρ (τ (Vl ZZ ZN k x y c))∧Below w.heap.size w w':=by
 have b1:=Qt w (θ #[ι γ k,σ x,σ y,ς A n C] 24) (θ #[.func (.func 40) #[] #[π (some ⟨w.heap.size+1,0,none⟩)]] 68);have HC:=Lib.hid (Qkt c.size (w.heap.size+1) k x y A n C c false 0 _ (Nat.le_refl _) ((hf.below b1 (Nat.le_refl _)).up b1.size) hx hy hsm ω (hT.below b1 hT.pos) ψ (by rw[World.cell?_alloc_at _ _ _ _ ψ];rfl));have HB:=Lib.hid b1;clear b1 hf hx hy hsm hT;by_cases hk:k=1
 ·subst hk;rw[show Vl ZZ ZN 1 x y c=Vz ZZ ZN 1 x y c false 0 from rfl];generalize Vz ZZ ZN 1 x y c false 0=bb at *;go_enter Tryz.func28,Tryz.ntmps28;exact c170
 ·have k1:=QM hk;rw[show Vl ZZ ZN k x y c=false by unfold Vl;rw[k1];rfl];clear hk HC;go_enter Tryz.func28,Tryz.ntmps28;exact c23
end Tree
namespace Mem
def pn(v:Value)(i:Nat):Value:=match v with
 | ς (some ⟨g,_,_⟩) _ _=>π (some ⟨g,i,none⟩)
 |_=>undef
structure GL(w0:World)(B:Nat)(C:Nat→Option Value)(D:Nat→Option (Value→Value))(iM iB iA iE iS:Nat)(R0:Bool→Value→List QC)(cs:Value→List Value)(RR:Bool→Bool→Value→Value→List QC)(L:Nat→Bool)(x:Nat→Value)(W:World):Prop where
 QF:Below B w0 W
 kc:∀i v,C i=some v→L i=true→x i=v
 kd:∀i f,D i=some f→L i=true→x i=f (x iA)∧L iA=true
 f0:L iA=false→QH W B (R0 (L iM) (x iM))
 fb:L iB=true→L iA=false→∃g c,x iB=ς (some ⟨g,0,none⟩) 1 c∧∀j u,(cs (x iM))[j]?=some u→W.cell? ⟨g,j,none⟩=some u
 f1:L iA=true→QH W B (RR (L iE) (L iS) (x iM) (x iA))
 dS:L iS=true→L iA=true
 dE:L iE=true→L iA=true
section
variable {w0 W W':World}{B:Nat}{C:Nat→Option Value}{D:Nat→Option (Value→Value)}{iM iB iA iE iS:Nat}{R:List QC}{R0:Bool→Value→List QC}{cs:Value→List Value}{RR:Bool→Bool→Value→Value→List QC}{L:Nat→Bool}{x:Nat→Value}{v:Value}
theorem GL.start(h:QH W B R)(hR:∀v,R0 false v=R):GL W B C D iM iB iA iE iS R0 cs RR (fun _=>false) x W.drew :=
 ⟨⟨rfl,rfl,rfl,Nat.le_refl _,fun _ _=>rfl⟩,fun _ _ _ h=>(by cases h),fun _ _ _ h=>(by cases h),fun _=>by rw[hR];exact h.YH ⟨rfl,rfl,rfl,Nat.le_refl _,fun _ _ _=>rfl⟩,fun h=>(by cases h),fun h=>(by cases h),fun h=>(by cases h),fun h=>(by cases h)⟩
theorem GL.Cc(h:GL w0 B C D iM iB iA iE iS R0 cs RR L x W){i:Nat}(hi:C i=none∨C i=some v):∀j u,C j=some u→Zh L i j=true→Qq x i v j=u:=fun j u hj hl=>by
 by_cases e:j=i
 ·subst e;rw[Ks];rcases hi with hi|hi
  ·rw[hi]at hj;cases hj
  ·exact Option.some.inj (hi.symm.trans hj)
 ·rw[Zf e];rw[Qr e]at hl;exact h.kc j u hj hl
theorem GL.jX(h:GL w0 B C D iM iB iA iE iS R0 cs RR L x W){i:Nat}(hA:iA≠i)(hi:D i=none∨∃f,D i=some f∧v=f (x iA)∧L iA=true):∀j f,D j=some f→Zh L i j=true→Qq x i v j=f (Qq x i v iA)∧Zh L i iA=true:=fun j f hj hl=>by
 rw[Zf hA,Qr hA];by_cases e:j=i
 ·subst e;rw[Ks];rcases hi with hi|⟨f',hf',e1,e2⟩
  ·rw[hi]at hj;cases hj
  ·rw[hj]at hf';injection hf' with hf';subst hf';exact⟨e1,e2⟩
 ·rw[Zf e];rw[Qr e]at hl;exact h.kd j f hj hl
theorem GL.quiet(h:GL w0 B C D iM iB iA iE iS R0 cs RR L x W)(hW:B≤W.heap.size)(hb:Below W.heap.size W W'){i:Nat}(hi:C i=none∨C i=some v)(hd:D i=none∨∃f,D i=some f∧v=f (x iA)∧L iA=true)(h0:iM≠i)(h1:iB≠i)(h2:iA≠i)(h3:iE≠i)(h4:iS≠i) :
 GL w0 B C D iM iB iA iE iS R0 cs RR (Zh L i) (Qq x i v) W':=by
 refine⟨h.QF.trans (hb.mono hW),h.Cc hi,h.jX h2 hd,?_,?_,?_,?_,?_⟩;all_goals simp only[Qr h0,Qr h1,Qr h2,Qr h3,Qr h4,Zf h0,Zf h1,Zf h2]
 ·exact fun a=>(h.f0 a).later hb
 ·exact c68
 ·exact fun a=>(h.f1 a).later hb
 ·exact h.dS
 ·exact h.dE
theorem GL.make(h:GL w0 B C D iM iB iA iE iS R0 cs RR L x W)(hC:C iM=none)(hD:D iM=none)(h1:iB≠iM)(h2:iA≠iM)(h3:iE≠iM)(h4:iS≠iM)(hB:L iB=false)(hA:L iA=false)(hb:Below B W W')(hf:QH W' B (R0 true v)) :
 GL w0 B C D iM iB iA iE iS R0 cs RR (Zh L iM) (Qq x iM v) W':=by
 refine⟨h.QF.trans hb,h.Cc (.inl hC),h.jX h2 (.inl hD),?_,?_,?_,?_,?_⟩;all_goals simp only[Qr h1,Qr h2,Qr h3,Qr h4,Zf h1,Zf h2,V8,Ks]
 ·exact fun _=>hf
 ·intro a;rw[hB]at a;cases a
 ·intro a;rw[hA]at a;cases a
 ·exact h.dS
 ·exact h.dE
theorem GL.build(h:GL w0 B C D iM iB iA iE iS R0 cs RR L x W)(hW:B≤W.heap.size)(hb:Below W.heap.size W W')(hC:C iB=none)(hD:D iB=none)(hM:iM≠iB)(hA:iA≠iB)(hE:iE≠iB)(hS:iS≠iB){g c:Nat}(hv:v=ς (some ⟨g,0,none⟩) 1 c)(hc:∀j u,(cs (x iM))[j]?=some u→W'.cell? ⟨g,j,none⟩=some u) :
 GL w0 B C D iM iB iA iE iS R0 cs RR (Zh L iB) (Qq x iB v) W':=by
 refine⟨h.QF.trans (hb.mono hW),h.Cc (.inl hC),h.jX hA (.inl hD),?_,?_,?_,?_,?_⟩;all_goals simp only[Qr hM,Qr hA,Qr hE,Qr hS,Zf hA,Zf hM,Ks]
 ·exact fun a=>(h.f0 a).later hb
 ·exact fun _ _=>⟨g,c,hv,hc⟩
 ·exact fun a=>(h.f1 a).later hb
 ·exact h.dS
 ·exact h.dE
theorem GL.app(h:GL w0 B C D iM iB iA iE iS R0 cs RR L x W)(hC:C iA=none)(hD:D iA=none)(hM:iM≠iA)(hE:iE≠iA)(hS:iS≠iA)(hL:L iA=false)(hb:Below B W W')(hf:QH W' B (RR false false (x iM) v)):GL w0 B C D iM iB iA iE iS R0 cs RR (Zh L iA) (Qq x iA v) W':=by
 have s0:L iS=false:=by cases e:L iS with|false=>rfl|true=>rw[h.dS e]at hL;cases hL
 have e0:L iE=false:=by cases e:L iE with|false=>rfl|true=>rw[h.dE e]at hL;cases hL
 refine⟨h.QF.trans hb,h.Cc (.inl hC),fun j f hj hl=>?_,fun a=>(by rw[V8]at a;cases a),fun _ a=>(by rw[V8]at a;cases a),fun _=>?_,fun _=>V8,fun _=>V8⟩
 ·by_cases e:j=iA
  ·subst e;rw[hD]at hj;cases hj
  ·rw[Qr e]at hl;have:=(h.kd j f hj hl).2;rw[hL]at this;cases this
 ·rw[Qr hE,Qr hS,Zf hM,Ks,s0,e0];exact hf
theorem GL.put(h:GL w0 B C D iM iB iA iE iS R0 cs RR L x W)(hC:C iE=none)(hD:D iE=none)(hM:iM≠iE)(hA:iA≠iE)(hS:iS≠iE)(hL:L iA=true)(hb:Below B W W')(hf:QH W' B (RR true (L iS) (x iM) (x iA))):GL w0 B C D iM iB iA iE iS R0 cs RR (Zh L iE) (Qq x iE v) W':=by
 refine⟨h.QF.trans hb,h.Cc (.inl hC),h.jX hA (.inl hD),fun a=>?_,fun _ a=>?_,fun _=>?_,fun _=>by rw[Qr hA];exact hL,fun _=>by rw[Qr hA];exact hL⟩
 ·rw[Qr hA,hL]at a;cases a
 ·rw[Qr hA,hL]at a;cases a
 ·rw[V8,Qr hS,Zf hM,Zf hA];exact hf
theorem GL.store(h:GL w0 B C D iM iB iA iE iS R0 cs RR L x W)(hC:C iS=none)(hD:D iS=none)(hM:iM≠iS)(hA:iA≠iS)(hE:iE≠iS)(hL:L iA=true)(hb:Below B W W')(hf:QH W' B (RR (L iE) true (x iM) (x iA))):GL w0 B C D iM iB iA iE iS R0 cs RR (Zh L iS) (Qq x iS v) W':=by
 refine⟨h.QF.trans hb,h.Cc (.inl hC),h.jX hA (.inl hD),fun a=>?_,fun _ a=>?_,fun _=>?_,fun _=>by rw[Qr hA];exact hL,fun _=>by rw[Qr hA];exact hL⟩
 ·rw[Qr hA,hL]at a;cases a
 ·rw[Qr hA,hL]at a;cases a
 ·rw[V8,Qr hE,Zf hM,Zf hA];exact hf
end
