import Derived.Test.YtaiihnniblibaaaGreatDoorG36
import Derived.Lib.SmallJoins
set_option maxHeartbeats 8000000
set_option maxRecDepth 100000
set_option linter.unusedVariables false
open Go.ChangeShapes Go.WideShapes Go.ChangeAt Go.RowKit Go.Proofs.Tryz
open Go.Lib renaming hid→QA
open _root_.Nat renaming le_refl→QH,le_trans→VJ,zero_add→JN
open Go.RowKit.Below renaming refl→QF
open Go.Value renaming string→σ,int→ι,slice→ς,bool→τ,agg→ξ
open Go.IntKind renaming i64→κ
open Go.Obj renaming cells→θ
open Go.Ending renaming returned→ρ
namespace Go.Proofs.YtaiihnniblibaaaGreatDoor
namespace Tree
open Mem
theorem Qqf:(Tryz.prog.info? 24).map (fun i=>(i.zero,i.size,i.bytes))=some (some (ξ #[ι κ 0,σ ⟨#[]⟩,σ ⟨#[]⟩,ς none 0 0]),4,64):=by kernel_rfl
def BK(p:Nd×Value):List Value:=[ι κ p.1.k,σ p.1.x,σ p.1.y,p.2]
theorem wK(p:Nd×Value):(BK p).length=4:=rfl
def Px(w:World)(B base:Nat)(v:Value)(L:List Nd):Prop :=
  ∃ps:List (Nd×Value),ps.map (·.1)=L∧w.ownsRow base 24 4 v L.length (ps.flatMap BK)∧∀p∈ps,Fs w (Lo B) p.2 p.1.c
theorem Gv{w:World}{base:Nat}{e:TypeId}{size n:Nat}{v:Value}{xs:List Value}(h:w.ownsRow base e size v n xs):∃a c,v=ς a n c∧n≤c∧c≤maxLen:=by
  rcases h.2 with⟨rfl,rfl⟩|⟨g,cap,cur,rfl,_,_,h1,h2,_⟩
  ·exact⟨none,0,rfl,QH _,Nat.zero_le _⟩
  ·exact⟨_,_,rfl,h1,h2⟩
theorem Px.slice{w:World}{B base:Nat}{v:Value}{L:List Nd}(h:Px w B base v L):∃a c,v=ς a L.length c∧L.length≤c∧c≤maxLen:=by
  obtain⟨ps,_,ho,_⟩:=h;exact Gv ho
theorem Px.below{w w':World}{B base:Nat}{v:Value}{L:List Nd}(h:Px w B base v L)(hb:Below w.heap.size w w')(hB:B≤w.heap.size):Px w' B base v L:=by
  obtain⟨ps,h1,ho,hf⟩:=h;refine⟨ps,h1,⟨ho.1,?_⟩,fun p hp=>(hf p hp).below hb hB⟩;rcases ho.2 with h' |⟨g,cap,cur,a,b,hg,r⟩
  ·exact .inl h'
  ·exact .inr ⟨g,cap,cur,a,b,(hb.block g (lt_of_block hg)).trans hg,r⟩
theorem Px.base{w:World}{B base base':Nat}{v:Value}{L:List Nd}(h:Px w B base v L)(hb:base'≤base):Px w B base' v L:=by
  obtain⟨ps,h1,ho,hf⟩:=h;refine⟨ps,h1,⟨ho.1,?_⟩,hf⟩;rcases ho.2 with h' |⟨g,cap,cur,a,b,hg,r⟩
  ·exact .inl h'
  ·exact .inr ⟨g,cap,cur,a,VJ hb b,hg,r⟩
theorem wL{w:World}{B:Nat}{ps:List (Nd×Value)}(hf:∀p∈ps,Fs w (Lo B) p.2 p.1.c):∀u∈ps.flatMap BK,u.oneCell'=true:=fun u hu=>by
  obtain⟨p,hp,hu⟩:=List.mem_flatMap.1 hu;obtain⟨A,C,e,_,_⟩:=(hf p hp).slice;simp only[BK,List.mem_cons,List.not_mem_nil,or_false]at hu;rcases hu with rfl|rfl|rfl|rfl
  ·rfl
  ·rfl
  ·rfl
  ·rw[e];rfl
theorem Px.at_{w:World}{B base:Nat}{A:Option Addr}{n c:Nat}{L:List Nd}(h:Px w B base (ς A n c) L){i:Nat}{nd:Nd}(hi:L[i]?=some nd) :
    ∃g s,A=some ⟨g,0,none⟩∧base≤g∧g<w.heap.size∧w.cell? ⟨g,i*4,none⟩=some (ι κ nd.k)∧w.cell? ⟨g,i*4+1,none⟩=some (σ nd.x)∧w.cell? ⟨g,i*4+2,none⟩=some (σ nd.y)∧w.cell? ⟨g,i*4+3,none⟩=some s∧Fs w (Lo B) s nd.c:=by
  obtain⟨ps,h1,ho,hf⟩:=h;have hlen:ps.length=L.length:=by rw[←h1];simp
  have hil:i<L.length:=(List.getElem?_eq_some_iff.1 hi).1;obtain⟨p,hp⟩:∃p,ps[i]?=some p:=⟨_,List.getElem?_eq_getElem (by omega)⟩;have SQ:p.1=nd:=by
    have:(ps.map (·.1))[i]?=some p.1:=by rw[List.getElem?_map,hp];rfl
    rw[h1,hi]at this;exact(Option.some.inj this).symm
  rcases ho.2 with⟨_,h0⟩|⟨g,cap,cur,hv,hg0,hg,q1,q2,q3,q4⟩
  ·omega
  ·injection hv with e1 e2 e3;have hc:=ho.cells (g:=g) (by rw[e1];rfl);have ad:∀j,(⟨g,0,none⟩:Addr).add j=⟨g,j,none⟩:=fun j=>by unfold Addr.add;split <;> simp_all
   have at_:∀j u,(BK p)[j]? = some u→w.cell? ⟨g,i*4+j,none⟩=some u:=fun j u hu=>by
     have:=hc (i*4+j) u (ZR.qI (sz:=4) wK ps i p hp j u hu);rwa[ad]at this
   refine⟨g,p.2,e1,hg0,lt_of_block hg,?_,?_,?_,?_,?_⟩
   ·have:=at_ 0 _ rfl;rwa[SQ]at this
   ·have:=at_ 1 _ rfl;rwa[SQ]at this
   ·have:=at_ 2 _ rfl;rwa[SQ]at this
   ·exact at_ 3 _ rfl
   ·have:=hf p (List.mem_of_getElem? hp);rwa[SQ]at this
theorem Qrj(w:World){ops:Array Oper}{rest:List Oper}{o:Oper}{a:Act}{Q:Exit→Act→World→Prop}(hgd:o.guard=none)(s x:Operand)
    (ho:o.op=.call { callee:=.builtin .append,args:=#[s,x],argTypes:=#[22,22] }) (B base OV:Nat) (v:Value) (L1 L2:List Nd) (A:Option Addr) (m c:Nat) (hs:a.eval s=v) (hx:a.eval x=ς A m c)
    (h1:Px w B base v L1) (h2:Px w B OV (ς A m c) L2) (hB:B≤base) (hbase:base≤w.heap.size) (hne:L2≠[]) (hlen:L1.length+L2.length≤1000000)
    (h:∀v' w',Px w' B base v' (L1++L2)→Below base w w'→wpList Tryz.prog ops Q rest (a.put o.dst v') w'):wpList Tryz.prog ops Q (o::rest) a w:=by
  obtain⟨i0,hi0,hz0,hz1,hz2⟩:=info_parts Qqf;obtain⟨Ip,e1,Sp,XW⟩:=h1;obtain⟨Ma,e2,Sn,hf2⟩:=h2;have hm:m=L2.length:=by obtain⟨a',c',e,_,_⟩:=Gv Sn;injection e
  subst hm;rcases Sn.2 with⟨_,h0⟩|⟨g,cap,cur,hv,hg0,hg,q1,q2,q3,q4⟩
  ·exact absurd (List.eq_nil_of_length_eq_zero h0) hne
  ·have e3:A=some ⟨g,0,none⟩:=by injection hv
   subst e3;refine wpList_append_own_at (P:=Tryz.prog) w hgd s x 22 ho base 24 i0 (ξ #[ι κ 0,σ ⟨#[]⟩,σ ⟨#[]⟩,ς none 0 0]) 4 64 Tryz.underlying22 hi0 hz0 hz1 hz2 rfl (by decide) v L1.length _ hs Sp ⟨g,0,none⟩ L2.length c (Ma.flatMap BK) hx Sn.1 (Sn.cells rfl) (wL hf2) (by unfold maxLen;omega) (by omega) hbase fun v' w' r1 r2 _ _=>?_
   have hbl:Below base w w':=(Below.refl _ _).grown r2 hbase (fun k hk=>(Sp.lt k hk).1);refine h v' w' ⟨Ip++Ma,by rw[List.map_append,e1,e2],by rw[List.flatMap_append,List.length_append];exact r1,fun p hp=>?_⟩ hbl;rcases List.mem_append.1 hp with hp|hp
   ·exact(XW p hp).below hbl hB
   ·exact(hf2 p hp).below hbl hB
theorem Quq(w:World)(B:Nat)(nd:Nd)(s:Value)(hf:Fs w (Lo B) s nd.c)(hB:B≤w.heap.size):Px (w.alloc (θ #[ι κ nd.k,σ nd.x,σ nd.y,s] 24)) B w.heap.size (ς (some ⟨w.heap.size,0,none⟩) 1 1) [nd] :=
  ⟨[(nd,s)],rfl,⟨rfl,.inr ⟨w.heap.size,1,_,rfl,QH _,heap_alloc_new w _,QH _,by unfold maxLen;omega,rfl,rfl⟩⟩,fun p hp=>by
    simp only[List.mem_singleton]at hp;subst hp;exact hf.below (Qb _ _) hB⟩
structure gU(w wr:World)(B:Nat)(v:Value)(T L:List Nd)(R:F)(m:Nat):Prop where
  KN:Below w.heap.size w wr
  own:Px wr B (w.heap.size+1) v L
  eq:(L++nodes R).take m=T.take m
  le:L.length≤m
theorem Qpk{α:Type}{L kn R:List α}{m:Nat}(h:L.length≤m):(L++(kn.take (m-L.length)++R)).take m=(L++(kn++R)).take m:=by
  rw[List.take_append,List.take_append,List.take_append,List.take_append];by_cases hk:kn.length≤m-L.length
  ·rw[List.take_of_length_le (l:=kn) hk];rw[List.take_of_length_le (l:=kn) hk]
  ·have e:(kn.take (m-L.length)).length=m-L.length:=by rw[List.length_take];omega
   rw[e,List.take_take,Nat.min_self,Nat.sub_self,show m-L.length-kn.length=0 by omega]
def xN(N:Nat):Prop:=∀(k:Int)(x y:ByteArray)(A:Option Addr)(n C:Nat)(c:F)(m B:Nat)(w:World),c.size≤N→Fs w (Lo B) (ς A n C) c→B≤w.heap.size→1≤m→m≤100000→
  Calls Tryz.prog 21 #[ξ #[ι κ k,σ x,σ y,ς A n C],ι κ (m:Int)] w fun e w'=>(∃v,e=ρ v∧Px w' B w.heap.size v ((⟨k,x,y,c⟩::nodes c).take m))∧Below w.heap.size w w'
theorem Qna(N:Nat)(ih:∀M,M<N→xN M):xN N:=by
  intro k x y A n C c m B w hN hf hB Hh hm2;have Ia:=QA ih;have b1:=Qb w (θ #[ι κ k,σ x,σ y,ς A n C] 24);have b2:=Qb (w.alloc (θ #[ι κ k,σ x,σ y,ς A n C] 24)) (θ #[ι κ k,σ x,σ y,ς A n C] 24);have b3:=b1.trans (b2.mono b1.size);obtain⟨A0,C0,e,YR,UN⟩:=hf.slice;injection e with q1 q2 q3;subst q1;subst q2;subst q3;obtain⟨T,hT⟩:=Mem.ZB ((⟨k,x,y,c⟩::nodes c:List Nd));have HM:Hid (gU w ((w.alloc (θ #[ι κ k,σ x,σ y,ς A c.len C] 24)).alloc (θ #[ι κ k,σ x,σ y,ς A c.len C] 24)) B (ς (some ⟨w.heap.size+1,0,none⟩) 1 1) T [⟨k,x,y,c⟩] (c.drop 0) m):=by
    refine⟨b3,?_,by rw[←hT];rfl,Hh⟩;have:=Quq (w.alloc (θ #[ι κ k,σ x,σ y,ς A c.len C] 24)) B ⟨k,x,y,c⟩ (ς A c.len C) (hf.below b1 hB) (VJ hB b1.size);have e:(w.alloc (θ #[ι κ k,σ x,σ y,ς A c.len C] 24)).heap.size=w.heap.size+1:=by simp
    rw[e]at this;exact this
  have QK:Hid (∀W,Below (w.heap.size+1) (w.alloc (θ #[ι κ k,σ x,σ y,ς A c.len C] 24)) W→W.cell? ⟨w.heap.size,3,none⟩=some (ς A c.len C)):=fun W hW=>by
    rw[hW.cell (p:=⟨w.heap.size,3,none⟩) (by show w.heap.size<_;omega),World.cell?_alloc_at _ _ _ _ rfl];rfl
  have HF:=QA hf;have HB:=QA hB;have OL:C≤9223372036854775807:=UN;rw[hT];have GU:Hid (Below (w.heap.size+1) (w.alloc (θ #[ι κ k,σ x,σ y,ς A c.len C] 24)) ((w.alloc (θ #[ι κ k,σ x,σ y,ς A c.len C] 24)).alloc (θ #[ι κ k,σ x,σ y,ς A c.len C] 24))):=by show Below _ _ _;have:=b2;simpa using this
  obtain⟨n,hn⟩:=Mem.ZB (c.len);rw[hn]at HM QK HF YR GU⊢;have HN:=QA hn;clear ih hf b1 b2 b3 hB hT hn;go_enter Tryz.func21,Tryz.ntmps21;go_wp2
  go_loopw [5,6] (fun s5 s6 wr=>∃(i ln cp:Nat)(Al:Option Addr)(L:List Nd),i≤n∧L.length=ln∧ln≤m∧ln≤cp∧s6=ι κ (i:Int)∧s5=ς Al ln cp∧Hid (gU w wr B (ς Al ln cp) T L (c.drop i) m)∧Hid (Below (w.heap.size+1) (w.alloc (θ #[ι κ k,σ x,σ y,ς A n C] 24)) wr)) (fun _ i _=>n-(intOf i).toNat)
  case atStart=>exact⟨0,1,1,_,[⟨k,x,y,c⟩],Nat.zero_le _,rfl,Hh,QH _,rfl,rfl,HM.out,GU.out⟩
  case round =>
    clear HM GU;obtain⟨i,ln,cp,Al,L,hi,hL,hlm,hlc,rfl,rfl,HM,GU⟩:=hrel;have XA:=QK.out wr GU.out;by_cases hin:i<n
    ·have UX:(i:Int)<(n:Int):=by omega
     by_cases hlt:ln<m
     ·have hlt':(ln:Int)<(m:Int):=by omega
      obtain⟨kk,kx,ky,kc,kr,hdr,JG⟩:=F.drop_cons (n:=i) (f:=c) (by rw[HN.out];exact hin);have hfw:=HF.out.below HM.out.KN HB.out;obtain⟨b2,PN,s2,rfl,jm,_,XR⟩:=hfw.at_ hdr;obtain⟨Ak,Ck,rfl,_,_⟩:=XR.kids.slice;have e0:=XR.c0;have e1:=XR.c1;have e2:=XR.c2;have e3:=XR.c3;have hi0:(0:Int)≤(i:Int):=by omega
      have ZH:=gi hdr;have hsub:((m-ln:Nat):Int)=(m:Int)-(ln:Int):=by omega
      have hcall:=Ia.out kc.size (by omega) kk kx ky Ak kc.len Ck kc (m-ln) B wr (QH _) XR.kids (VJ HB.out HM.out.KN.size) (by omega) (by omega);rw[hsub]at hcall;have HC:=QA hcall;have DK:(L++((⟨kk,kx,ky,kc⟩::nodes kc:List Nd).take (m-L.length)++nodes (c.drop (i+1)))).take m=T.take m:=by rw[Qpk (by omega),←HM.out.eq,hdr,JG];rfl
      rw[hL]at DK;have hkl:((⟨kk,kx,ky,kc⟩::nodes kc:List Nd).take (m-ln)).length≤m-ln:=by rw[List.length_take];omega
      have hkn:(⟨kk,kx,ky,kc⟩::nodes kc:List Nd).take (m-ln)≠[]:=by obtain⟨q,hq⟩:∃q,m-ln=q+1:=⟨m-ln-1,by omega⟩;rw[hq];simp
      generalize(⟨kk,kx,ky,kc⟩::nodes kc:List Nd).take (m-ln)=K at *;have yM:=QA DK;have HKN:=QA hkn;clear hdr JG hfw XR jm hcall DK hkn ZH hsub;go_wp2_with fail;refine HC.out.mono ?_;rintro e w2 ⟨⟨v2,rfl,Sn⟩,hb2⟩;obtain⟨a2,c2,rfl,hc2,jh⟩:=Sn.slice;have RY:=QA Sn;have FT:=QA (HM.out.own.below hb2 (VJ HB.out HM.out.KN.size));have CL:=QA (HM.out.KN.trans (hb2.mono HM.out.KN.size));have SJ:=QA (GU.out.trans (hb2.mono (by have:=GU.out.size;simpa using this)));have Ni:Hid (w.heap.size+1≤w2.heap.size):=by show _≤_;have:=SJ.out.size;simpa using this
      clear Sn hb2 hc2 jh;go_wp2_with (at_builtin;refine Qrj w2 rfl _ _ rfl B (w.heap.size+1) wr.heap.size _ L K _ _ _ rfl rfl FT.out RY.out (Nat.le_succ_of_le HB.out) Ni.out HKN.out ?_ ?_)
      ·omega
      intro v3 w3 WJ hb3;obtain⟨a3,c3,rfl,hc3,Hq⟩:=WJ.slice;have hll:(L++K).length=ln+K.length:=by rw[List.length_append,hL]
      rw[hll]at hc3⊢;have FX:Hid (gU w w3 B (ς a3 (ln+K.length) c3) T (L++K) (c.drop (i+1)) m):=by
        refine⟨CL.out.trans (hb3.mono (Nat.le_succ _)),?_,?_,by omega⟩
        ·rw[hll]at WJ;exact WJ
        ·have:=yM.out;rwa[←List.append_assoc]at this
      have yQ:=QA (SJ.out.trans hb3);clear WJ hb3 Hq;go_wp2
      go_roundw
      case rel=>exact⟨i+1,ln+K.length,c3,a3,L++K,by omega,hll,by omega,hc3,by go_num,rfl,FX.out,yQ.out⟩
      case measure=>simp[intOf];omega
     ·have hlt':¬(ln:Int)<(m:Int):=by omega
      have HE:Hid (L=T.take m):=by show L=_;rw[←HM.out.eq,List.take_append_of_le_length (by omega),List.take_of_length_le (by omega)]
      clear hlt;go_wp2;go_ret;exact⟨⟨_,rfl,HE.out ▸ HM.out.own.base (Nat.le_succ _)⟩,HM.out.KN⟩
    ·have UX:¬(i:Int)<(n:Int):=by omega
     have HE:Hid (L=T.take m):=by show L=_;rw[←HM.out.eq,F.JH _ _ (by rw[HN.out];omega)];simp only[nodes,List.append_nil];rw[List.take_of_length_le (by omega)]
     clear hin;go_wp2;go_ret;exact⟨⟨_,rfl,HE.out ▸ HM.out.own.base (Nat.le_succ _)⟩,HM.out.KN⟩
theorem nB(N:Nat):xN N:=by
  induction N using Nat.strongRecOn with
  |_ N ih=>exact Qna N ih
def wt(nd:Nd):Nat:=min nd.x.size 100000+min nd.y.size 100000
def Up(L:List Nd):Nat:=L.foldr (fun nd s=>wt nd+s) 0
theorem Y0(nd:Nd)(L:List Nd):Up (nd::L)=wt nd+Up L:=rfl
theorem Yi:∀L1 L2:List Nd,Up (L1++L2)=Up L1+Up L2
  |[],L2=>by simp[Up]
  |nd::L,L2=>by rw[List.cons_append,Y0,Y0,Yi L L2];omega
theorem Qe5{L:List Nd}{i:Nat}{nd:Nd}(h:L[i]?=some nd):Up (L.take (i+1))=Up (L.take i)+wt nd:=by
  rw[List.take_add_one,h,Yi];simp[Up]
theorem Qiq(L:List Nd)(i:Nat):Up (L.take i)≤Up L:=by
  have:=Yi (L.take i) (L.drop i);rw[List.take_append_drop]at this;omega
theorem tG{L:List Nd}{nd:Nd}(h:nd∈L):wt nd≤Up L:=by
  induction L with
  |nil=>cases h
  |cons a L ih =>
   rw[Y0];rcases List.mem_cons.1 h with rfl|h
   ·omega
   ·have:=ih h;omega
def Ta(k:Int)(x y:ByteArray)(c:F):Bool:=decide (Up (((⟨k,x,y,c⟩:Nd)::nodes c).take 2001)≤50000)&&decide ((((⟨k,x,y,c⟩:Nd)::nodes c).take 2001).length≤2000)
theorem xL:∀(c:F),(∀nd∈nodes c,wt nd≤50000)→NM c
  | .nil,_=>trivial
  | .cons k x y c r,h=>by
    have h0:=h ⟨k,x,y,c⟩ (by simp[nodes]);simp only[wt]at h0;exact⟨by omega,by omega,xL c fun nd hn=>h nd (by simp[nodes,hn]),xL r fun nd hn=>h nd (by simp[nodes,hn])⟩
structure WA(x y:ByteArray)(c:F):Prop where
  hx:x.size≤50000
  hy:y.size≤50000
  sm:NM c
  sz:c.size<2000
theorem lH{k:Int}{x y:ByteArray}{c:F}(h:Ta k x y c=true):WA x y c:=by
  unfold Ta at h;rw[Bool.and_eq_true,decide_eq_true_eq,decide_eq_true_eq]at h;obtain⟨h1,h2⟩:=h;have hl:(((⟨k,x,y,c⟩:Nd)::nodes c)).length=c.size+1:=by rw[List.length_cons,Gg]
  rw[List.length_take,hl]at h2;rw[List.take_of_length_le (by omega)]at h1;have hm:=fun nd (hn:nd∈(⟨k,x,y,c⟩:Nd)::nodes c)=>Nat.le_trans (tG hn) h1
  have h0:=hm ⟨k,x,y,c⟩ (List.mem_cons_self ..);simp only[wt]at h0;exact⟨by omega,by omega,xL c fun nd hn=>hm nd (List.mem_cons_of_mem _ hn),by omega⟩
theorem oN(k:Int)(x y:ByteArray)(A:Option Addr)(n C:Nat)(c:F)(w:World)(hf:Fs w (Lo w.heap.size) (ς A n C) c) :
    Calls Tryz.prog 14 #[ξ #[ι κ k,σ x,σ y,ς A n C]] w fun e w'=>e=ρ (τ (Ta k x y c))∧Below w.heap.size w w':=by
  have b1:=Qb w (θ #[ι κ k,σ x,σ y,ς A n C] 24);have HC:=Lib.hid (nB c.size k x y A n C c 2001 w.heap.size (w.alloc (θ #[ι κ k,σ x,σ y,ς A n C] 24)) (Nat.le_refl _) (hf.below b1 (Nat.le_refl _)) b1.size (by omega) (by omega));have HV:Hid (Ta k x y c=(decide (Up (((⟨k,x,y,c⟩:Nd)::nodes c).take 2001)≤50000)&&decide ((((⟨k,x,y,c⟩:Nd)::nodes c).take 2001).length≤2000))):=rfl;have HL:Hid ((((⟨k,x,y,c⟩:Nd)::nodes c).take 2001).length≤2001):=by show _≤_;rw[List.length_take];omega
  have HB:=Lib.hid b1;generalize((⟨k,x,y,c⟩:Nd)::nodes c).take 2001=L at *;generalize Ta k x y c=bb at *;obtain⟨ln,Lf⟩:=Mem.ZB (L.length);rw[Lf]at HV HL;have EF:=Lib.hid Lf;have hl2:=HL.out;clear b1 hf Lf HL;go_enter Tryz.func14,Tryz.ntmps14;go_wp2_with fail;refine HC.out.mono ?_;rintro e w1 ⟨⟨v1,rfl,Sp⟩,hb1⟩;obtain⟨a1,c1,rfl,hc1,Mm⟩:=Sp.slice;rw[EF.out]at hc1 Sp⊢;have HO:=Lib.hid Sp;have QJ:=QN HB hb1;have iz:c1≤9223372036854775807:=Mm;clear Sp hb1 HC Mm;go_wp2
  go_loopw [4,5] (fun s4 s5 wr=>∃i q m:Nat,i≤ln∧s5=ι κ (i:Int)∧s4=ι κ (m:Int)∧m≤50000∧Hid (m=Up (L.take i))∧wr=w1.drewN q) (fun _ s5 _=>ln-(intOf s5).toNat)
  case atStart=>exact⟨0,0,0,Nat.zero_le _,rfl,rfl,by omega,(by show _=_;simp[Up]),rfl⟩
  case round =>
    obtain⟨i,q,m,hi,rfl,rfl,hm,IZ,rfl⟩:=hrel;by_cases hlt:i<ln
    ·obtain⟨nd,hnd⟩:∃nd,L[i]?=some nd:=⟨_,List.getElem?_eq_getElem (by rw[EF.out];exact hlt)⟩;obtain⟨g,s,rfl,_,_,_,d1,d2,_,_⟩:=HO.out.at_ hnd;have e1:∀q,(w1.drewN q).cell? ⟨g,i*4+1,none⟩=some (σ nd.x):=fun _=>d1
     have e2:∀q,(w1.drewN q).cell? ⟨g,i*4+2,none⟩=some (σ nd.y):=fun _=>d2
     have hlt':(i:Int)<(ln:Int):=by omega
     have hi0:(0:Int)≤(i:Int):=by omega
     have HS:Hid (m+(min nd.x.size 100000+min nd.y.size 100000)=Up (L.take (i+1))):=by show _=_;rw[Qe5 hnd,←IZ.out];rfl
     have NW:=Lib.hid (Qiq L (i+1));clear hnd d1 d2 IZ;have hA:min ((nd.x.size:Nat):Int) 100000=((min nd.x.size 100000:Nat):Int):=by omega
     have hAB:min ((nd.y.size:Nat):Int) 100000=((min nd.y.size 100000:Nat):Int):=by omega
     generalize min nd.x.size 100000=ta at *;generalize min nd.y.size 100000=tb at *;generalize nd.x=tx at *;generalize nd.y=ty at *;by_cases hgt:50000<m+(ta+tb)
     ·have ja:(50000:Int)<(m:Int)+(ta:Int)+(tb:Int):=by omega
      have HE:Hid (bb=false):=by show _=_;rw[HV.out,decide_eq_false (by have:=HS.out;have:=NW.out;omega)];rfl
      clear hgt;go_wp2
      go_quiet (fail)
      go_wp2;go_ret;exact⟨by rw[HE.out];rfl,jZ QJ.out _⟩
     ·have ja:¬(50000:Int)<(m:Int)+(ta:Int)+(tb:Int):=by omega
      have hle:m+(ta+tb)≤50000:=by omega
      clear hgt;go_wp2
      go_quiet (fail)
      go_wp2
      go_roundw
      case rel=>exact⟨i+1,_,m+(ta+tb),by omega,by go_num,by go_num,hle,HS.out,rfl⟩
      case measure=>simp[intOf];omega
    ·have hlt':¬(i:Int)<(ln:Int):=by omega
     obtain rfl:i=ln:=by omega
     have HE:Hid (bb=decide (i≤2000)):=by show _=_;rw[HV.out,decide_eq_true,Bool.true_and];rw[List.take_of_length_le (by rw[EF.out];exact Nat.le_refl _)]at IZ;rw[←IZ.out];exact hm
     clear hlt IZ;by_cases h2:i≤2000
     ·have h2':(i:Int)≤2000:=by omega
      rw[decide_eq_true h2]at HE;clear h2;go_wp2;go_ret;exact⟨by rw[HE.out];rfl,jZ QJ.out _⟩
     ·have h2':¬(i:Int)≤2000:=by omega
      rw[decide_eq_false h2]at HE;clear h2;go_wp2;go_ret;exact⟨by rw[HE.out];rfl,jZ QJ.out _⟩
end Tree
namespace QB
open KL ZR Mem Tree
def qp(p:Nat)(e:Int):Rd Nd→Bool
 | .ok _ _=>false
 | .bad q f=>decide (q=p)&&decide (f=e)
theorem rX{p:Nat}{e:Int}{R:Rd Nd}(h:qp p e R=true):R=.bad p e:=by
 cases R with
 |ok a r=>cases h
 |bad q f=>simp only[qp,Bool.and_eq_true,decide_eq_true_eq]at h;rw[h.1,h.2]
def ud:List Int:=[112,97,99,107,97,103,101,32,112,10,99,111,110,115,116,32,97,32,61,32,40,98,32,45,32,99,41,32,42,32,50,32,47,47,32,100]
def ub:List Int:=[112,97,99,107,97,103,101,32,112,10,120,32,58,61,32,49]
def gJ:Rd Nd→Bool
 | .ok ⟨_,_,_,.cons _ _ _ _ (.cons _ _ y (.cons _ x _ _ .nil) .nil)⟩ _=>y.toList==[47,47,32,100]&&x.toList==[42]
 |_=>false
theorem oZ{R:Rd Nd}(h:gJ R=true):∃k x y k0 x0 y0 c0 k1 x1 k2 y2 c2 r,R=.ok ⟨k,x,y,.cons k0 x0 y0 c0 (.cons k1 x1 ⟨#[47,47,32,100]⟩ (.cons k2 ⟨#[42]⟩ y2 c2 .nil) .nil)⟩ r:=by
 unfold gJ at h;split at h
 ·rename_i y1 k2 x2 y2 c2 r
  simp only[Bool.and_eq_true,beq_iff_eq]at h;have e1:y1=⟨#[47,47,32,100]⟩:=Jp (by rw[h.1,ByteArray.toList_eq]);have e2:x2=⟨#[42]⟩:=Jp (by rw[h.2,ByteArray.toList_eq]);subst e1;subst e2;exact⟨_,_,_,_,_,_,_,_,_,_,_,_,_,rfl⟩
 ·cases h
theorem Q1q:gJ (X4 ud)=true:=by decide +kernel
theorem Q1p:qp 10 5 (X4 ub)=true:=by decide +kernel
theorem Q1o:qp 0 5 (X4 [])=true:=by decide +kernel
theorem nI(K:List Int)(hb:K.all (fun x=>decide (0≤x∧x<256))=true)(n:Nat)(hn:K.length=n)(hs:n≤1000)(w:World)(hT:Lex.LO w)(fr:Nat×Nat)(g:Nat)(hg:g=w.heap.size) :
  Calls prog 9 #[ς (some ⟨g,0,none⟩) n n] (w.alloc (θ (K.map (ι .u8)).toArray 5 fr)) (tS K (w.alloc (θ (K.map (ι .u8)).toArray 5 fr))):=by
 subst hg;subst hn;have ZU:Below w.heap.size w (w.alloc (θ (K.map (ι .u8)).toArray 5 fr)):=(QF _ _).alloc (QH _) _;exact zy _ _ _ K _ _ (Lex.pL w K 5 fr (fun x hx=>by simpa using List.all_eq_true.1 hb x hx)) (by simp) rfl (QH _) (by unfold maxLen;omega) (by omega) (hT.below ZU hT.pos)
theorem Kt(w:World)(hT:Lex.LO w) :
  Calls prog 8 #[] w fun e w'=>e=ρ (τ true)∧Below w.heap.size w w':=by
 have fq:(convert 30 30 (ς (some ⟨w.heap.size,0,none⟩) 36 36)).run prog (w.alloc (θ #[ι .u8 112,ι .u8 97,ι .u8 99,ι .u8 107,ι .u8 97,ι .u8 103,ι .u8 101,ι .u8 32,ι .u8 112,ι .u8 10,ι .u8 99,ι .u8 111,ι .u8 110,ι .u8 115,ι .u8 116,ι .u8 32,ι .u8 97,ι .u8 32,ι .u8 61,ι .u8 32,ι .u8 40,ι .u8 98,ι .u8 32,ι .u8 45,ι .u8 32,ι .u8 99,ι .u8 41,ι .u8 32,ι .u8 42,ι .u8 32,ι .u8 50,ι .u8 32,ι .u8 47,ι .u8 47,ι .u8 32,ι .u8 100] 5))=.ok (ς (some ⟨w.heap.size,0,none⟩) 36 36) (w.alloc (θ #[ι .u8 112,ι .u8 97,ι .u8 99,ι .u8 107,ι .u8 97,ι .u8 103,ι .u8 101,ι .u8 32,ι .u8 112,ι .u8 10,ι .u8 99,ι .u8 111,ι .u8 110,ι .u8 115,ι .u8 116,ι .u8 32,ι .u8 97,ι .u8 32,ι .u8 61,ι .u8 32,ι .u8 40,ι .u8 98,ι .u8 32,ι .u8 45,ι .u8 32,ι .u8 99,ι .u8 41,ι .u8 32,ι .u8 42,ι .u8 32,ι .u8 50,ι .u8 32,ι .u8 47,ι .u8 47,ι .u8 32,ι .u8 100] 5 (36,37))) :=
  Lib.run_convert_bytes_const (P:=prog) w 30 5 _ 36 36 underlying30 underlying5
 have H1:=QA (nI ud (by decide) 36 rfl (by omega) w hT (36,37) _ rfl);have HT:=QA hT;clear hT;go_enter func8,ntmps8;go_wp2_with fail;refine H1.out.mono ?_;rintro e w1 ⟨hb1,h1⟩;obtain⟨nk,nx,ny,nk0,x0,y0,c0,q1,x1,q2,y2,c2,r,hR⟩:=oZ Q1q;rw[hR]at h1;simp only[F.len,JN,Nat.reduceAdd]at h1;obtain⟨A1,C1,rfl,XW⟩:=h1;have QJ:=QA (((QF _ _).alloc (QH _) (θ #[ι .u8 112,ι .u8 97,ι .u8 99,ι .u8 107,ι .u8 97,ι .u8 103,ι .u8 101,ι .u8 32,ι .u8 112,ι .u8 10,ι .u8 99,ι .u8 111,ι .u8 110,ι .u8 115,ι .u8 116,ι .u8 32,ι .u8 97,ι .u8 32,ι .u8 61,ι .u8 32,ι .u8 40,ι .u8 98,ι .u8 32,ι .u8 45,ι .u8 32,ι .u8 99,ι .u8 41,ι .u8 32,ι .u8 42,ι .u8 32,ι .u8 50,ι .u8 32,ι .u8 47,ι .u8 47,ι .u8 32,ι .u8 100] 5 (36,37))).trans (hb1.mono (by simp)));have Ro:=QA XW;clear hb1 XW fq H1 hR;have QZ:Below w1.heap.size w1 (w1.alloc (θ #[ι κ nk,σ nx,σ ny,ς A1 2 C1] 24)):=(QF _ _).alloc (QH _) _;have QK:=QA QZ;have GU:Hid (JS (w1.alloc (θ #[ι κ nk,σ nx,σ ny,ς A1 2 C1] 24)) w1.heap.size nk nx ny (ς A1 2 C1)):=heap_alloc_new w1 _;have zH:=QA ((HT.out.below QJ.out HT.out.pos).below QZ (HT.out.below QJ.out HT.out.pos).pos);clear QZ;have fp:(convert 30 30 (ς (some ⟨w1.heap.size+1,0,none⟩) 16 16)).run prog ((w1.alloc (θ #[ι κ nk,σ nx,σ ny,ς A1 2 C1] 24)).alloc (θ #[ι .u8 112,ι .u8 97,ι .u8 99,ι .u8 107,ι .u8 97,ι .u8 103,ι .u8 101,ι .u8 32,ι .u8 112,ι .u8 10,ι .u8 120,ι .u8 32,ι .u8 58,ι .u8 61,ι .u8 32,ι .u8 49] 5))=.ok (ς (some ⟨w1.heap.size+1,0,none⟩) 16 16) ((w1.alloc (θ #[ι κ nk,σ nx,σ ny,ς A1 2 C1] 24)).alloc (θ #[ι .u8 112,ι .u8 97,ι .u8 99,ι .u8 107,ι .u8 97,ι .u8 103,ι .u8 101,ι .u8 32,ι .u8 112,ι .u8 10,ι .u8 120,ι .u8 32,ι .u8 58,ι .u8 61,ι .u8 32,ι .u8 49] 5 (16,17))) :=
  Joins.run_convert_bytes_const_at (P:=prog) (w1.alloc (θ #[ι κ nk,σ nx,σ ny,ς A1 2 C1] 24)) 30 5 _ 16 16 _ (by simp) underlying30 underlying5
 have H2:=QA (nI ub (by decide) 16 rfl (by omega) _ zH.out (16,17) (w1.heap.size+1) (by simp));go_wp2_with fail;refine H2.out.mono ?_;rintro e w2 ⟨hb2,h2⟩;rw[rX Q1p]at h2;have h2:e=_:=h2;subst h2;have Mp:Below (w1.heap.size+1) (w1.alloc (θ #[ι κ nk,σ nx,σ ny,ς A1 2 C1] 24)) w2:=((QF _ _).alloc (by simp) (θ #[ι .u8 112,ι .u8 97,ι .u8 99,ι .u8 107,ι .u8 97,ι .u8 103,ι .u8 101,ι .u8 32,ι .u8 112,ι .u8 10,ι .u8 120,ι .u8 32,ι .u8 58,ι .u8 61,ι .u8 32,ι .u8 49] 5 (16,17))).trans (hb2.mono (by simp));have LS:=QA (zH.out.below Mp (Nat.lt_of_lt_of_le zH.out.pos (by simp)));have SJ:=QA (GU.out.below Mp (Nat.lt_succ_self _));have QR:=QA (QK.out.trans (Mp.mono (Nat.le_succ _)));clear hb2 Mp fp H2 GU QK;have hby:Below w2.heap.size w2 (w2.alloc (θ #[ι κ 0,σ ⟨#[]⟩,σ ⟨#[]⟩,ς none 0 0] 24)):=(QF _ _).alloc (QH _) _;have Sb:=QA hby
 have H3:=QA (zy none 0 0 [] _ _ ⟨ZZ.nil,.inl rfl⟩ (QH _) rfl (QH _) (by decide) (by decide) (LS.out.below hby LS.out.pos));clear hby
 go_wp2_with fail;refine H3.out.mono ?_;rintro e w3 ⟨DM,h3⟩;have hb3:=(Sb.out.trans (DM.mono (by simp))).trans (((QF _ _).alloc (QH _) (θ #[ι κ 0,σ ⟨#[]⟩,σ ⟨#[]⟩,ς none 0 0] 24)).mono (VJ (by simp:w2.heap.size≤(w2.alloc (θ #[ι κ 0,σ ⟨#[]⟩,σ ⟨#[]⟩,ς none 0 0] 24)).heap.size) DM.size));clear DM Sb;rw[rX Q1o]at h3;have h3:e=_:=h3;subst h3;have hf3:=Zc (Zc Ro.out QR.out (QH _)) hb3 QR.out.size;have GA:=QA (QJ.out.trans ((QR.out.mono QJ.out.size).trans (hb3.mono (VJ QJ.out.size QR.out.size))));obtain⟨p0,p1,p2,p3⟩:=(SJ.out.below hb3 SJ.out.lt).cells;obtain⟨b,off,s,rfl,_,_,ha⟩:=hf3.at_ (i:=1) rfl;obtain⟨A4,C4,rfl,_,_⟩:=ha.kids.slice;obtain⟨b4,bZ,s4,rfl,_,_,OD⟩:=ha.kids.at_ (i:=0) rfl;obtain⟨d0,d1,d2,d3⟩:=And.intro ha.c0 (And.intro ha.c1 (And.intro ha.c2 ha.c3));obtain⟨g0,g1,g2,g3⟩:=And.intro OD.c0 (And.intro OD.c1 (And.intro OD.c2 OD.c3));simp only[Nat.one_mul,Nat.zero_mul,Nat.add_zero,F.len,JN]at d0 d1 d2 d3 g0 g1 g2 g3;clear hf3 ha OD hb3 H3 LS zH HT QJ QR Ro SJ;go_wp2_with fail;go_ret;exact⟨rfl,GA.out⟩
