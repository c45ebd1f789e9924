import Derived.Test.YtmepekognmlblaaGreatDoorS21
set_option maxHeartbeats 8000000
set_option maxRecDepth 100000
set_option linter.unusedVariables false
open Go.ChangeShapes Go.WideShapes Go.ChangeAt Go.RowKit
open Go.Lib renaming hid→QA
open _root_.Nat renaming le_refl→QI,le_trans→QW,zero_le→ZR
open Go.Value renaming string→σ,int→ι,slice→ς,bool→τ,agg→ξ
open Go.IntKind renaming i64→γ
open Go.Obj renaming cells→θ
open Go.Ending renaming returned→ρ
namespace Go.Proofs.YtmepekognmlblaaGreatDoor
namespace Tree
open Mem
theorem Jz:(Tryz.prog.info? 24).map (fun i=>(i.zero,i.size,i.bytes))=some (some (ξ #[ι γ 0,σ ⟨#[]⟩,σ ⟨#[]⟩,ς none 0 0]),4,64):=χ
def VC(p:Nd×Value):List Value:=[ι γ p.1.k,σ p.1.x,σ p.1.y,p.2]
theorem Vn(p:Nd×Value):(VC p).length=4:=rfl
def K3(w:World)(B base:Nat)(v:Value)(L:List Nd):Prop :=
 ∃ps:List (Nd×Value),ps.map (·.1)=L∧w.ownsRow base 24 4 v L.length (ps.flatMap VC)∧∀p∈ps,Fs w (Lo B) p.2 p.1.c
theorem Q0{w:World}{base:Nat}{e:TypeId}{size n:Nat}{v:Value}{xs:List Value}(h:w.ownsRow base e size v n xs):∃a c,v=ς a n c∧n≤c∧c≤maxLen:=by
 rcases h.2 with⟨rfl,rfl⟩|⟨g,cap,cur,rfl,_,_,h1,h2,_⟩
 ·exact⟨none,0,rfl,QI _,ZR _⟩
 ·exact⟨_,_,rfl,h1,h2⟩
theorem K3.slice{w:World}{B base:Nat}{v:Value}{L:List Nd}(h:K3 w B base v L):∃a c,v=ς a L.length c∧L.length≤c∧c≤maxLen:=by
 obtain⟨ps,_,ho,_⟩:=h;exact Q0 ho
theorem K3.below{w w':World}{B base:Nat}{v:Value}{L:List Nd}(h:K3 w B base v L)(hb:Below w.heap.size w w')(hB:B≤w.heap.size):K3 w' B base v L:=by
 obtain⟨ps,h1,ho,hf⟩:=h;refine⟨ps,h1,⟨ho.1,?_⟩,fun p hp=>(hf p hp).below hb hB⟩;rcases ho.2 with h' |⟨g,cap,cur,a,b,hg,r⟩
 ·exact .inl h'
 ·exact .inr ⟨g,cap,cur,a,b,(hb.block g (lt_of_block hg)).trans hg,r⟩
theorem K3.base{w:World}{B base base':Nat}{v:Value}{L:List Nd}(h:K3 w B base v L)(hb:base'≤base):K3 w B base' v L:=by
 obtain⟨ps,h1,ho,hf⟩:=h;refine⟨ps,h1,⟨ho.1,?_⟩,hf⟩;rcases ho.2 with h' |⟨g,cap,cur,a,b,hg,r⟩
 ·exact .inl h'
 ·exact .inr ⟨g,cap,cur,a,QW hb b,hg,r⟩
theorem Ĕ{w:World}{B:Nat}{ps:List (Nd×Value)}(hf:∀p∈ps,Fs w (Lo B) p.2 p.1.c):∀u∈ps.flatMap VC,u.oneCell'=true:=fun u hu=>by
 obtain⟨p,hp,hu⟩:=List.mem_flatMap.1 hu;obtain⟨A,C,e,_,_⟩:=(hf p hp).slice;simp only[VC,List.mem_cons,List.not_mem_nil,or_false]at hu;rcases hu with rfl|rfl|rfl|rfl
 ·rfl
 ·rfl
 ·rfl
 ·rw[e];rfl
theorem K3.at_{w:World}{B base:Nat}{A:Option Addr}{n c:Nat}{L:List Nd}(h:K3 w B base (ς A n c) L){i:Nat}{nd:Nd}(hi:L[i]?=some nd) :
 ∃g s,A=some ⟨g,0,none⟩∧base≤g∧g<w.heap.size∧w.cell? ⟨g,i*4,none⟩=some (ι γ nd.k)∧w.cell? ⟨g,i*4+1,none⟩=some (σ nd.x)∧w.cell? ⟨g,i*4+2,none⟩=some (σ nd.y)∧w.cell? ⟨g,i*4+3,none⟩=some s∧Fs w (Lo B) s nd.c:=by
 obtain⟨ps,h1,ho,hf⟩:=h;have hlen:ps.length=L.length:=by rw[←h1];simp
 have hil:i<L.length:=(List.getElem?_eq_some_iff.1 hi).1;obtain⟨p,hp⟩:∃p,ps[i]?=some p:=⟨_,List.getElem?_eq_getElem ω⟩;have GZ:p.1=nd:=by
  have:(ps.map (·.1))[i]?=some p.1:=by rw[List.getElem?_map,hp];rfl
  rw[h1,hi]at this;exact(Option.some.inj this).symm
 rcases ho.2 with⟨_,h0⟩|⟨g,cap,cur,hv,hg0,hg,q1,q2,q3,q4⟩
 ·omega
 ·injection hv with e1 e2 e3;have hc:=ho.cells (g:=g) (by rw[e1];rfl);have ad:∀j,(⟨g,0,none⟩:Addr).add j=⟨g,j,none⟩:=fun j=>by unfold Addr.add;split <;> simp_all
  have at_:∀j u,(VC p)[j]? = some u→w.cell? ⟨g,i*4+j,none⟩=some u:=fun j u hu=>by
   have:=hc (i*4+j) u (Lm.Uz (sz:=4) Vn ps i p hp j u hu);rwa[ad]at this
  refine⟨g,p.2,e1,hg0,lt_of_block hg,?_,?_,?_,?_,?_⟩
  ·have:=at_ 0 _ rfl;rwa[GZ]at this
  ·have:=at_ 1 _ rfl;rwa[GZ]at this
  ·have:=at_ 2 _ rfl;rwa[GZ]at this
  ·exact at_ 3 _ rfl
  ·have:=hf p (List.mem_of_getElem? hp);rwa[GZ]at this
theorem Qpx(w:World){ops:Array Oper}{rest:List Oper}{o:Oper}{a:Act}{Q:Exit→Act→World→Prop}(hgd:o.guard=none)(s x:Operand)
 (ho:o.op=.call { callee:=.builtin .append,args:=#[s,x],argTypes:=#[22,22] }) (B base gX:Nat) (v:Value) (L1 L2:List Nd) (A:Option Addr) (m c:Nat) (hs:a.eval s=v) (hx:a.eval x=ς A m c)
 (h1:K3 w B base v L1) (h2:K3 w B gX (ς A m c) L2) (hB:B≤base) (hbase:base≤w.heap.size) (hne:L2≠[]) (hlen:L1.length+L2.length≤1000000)
 (h:∀v' w',K3 w' B base v' (L1++L2)→Below base w w'→wpList Tryz.prog ops Q rest (a.put o.dst v') w'):wpList Tryz.prog ops Q (o::rest) a w:=by
 obtain⟨i0,hi0,hz0,hz1,hz2⟩:=info_parts Jz;obtain⟨jE,e1,XD,Pe⟩:=h1;obtain⟨jD,e2,EI,hf2⟩:=h2;have hm:m=L2.length:=by obtain⟨a',c',e,_,_⟩:=Q0 EI;injection e
 subst hm;rcases EI.2 with⟨_,h0⟩|⟨g,cap,cur,hv,hg0,hg,q1,q2,q3,q4⟩
 ·exact absurd (List.eq_nil_of_length_eq_zero h0) hne
 ·have e3:A=some ⟨g,0,none⟩:=by injection hv
  subst e3;refine wpList_append_own_at (P:=Tryz.prog) w hgd s x 22 ho base 24 i0 (ξ #[ι γ 0,σ ⟨#[]⟩,σ ⟨#[]⟩,ς none 0 0]) 4 64 Tryz.underlying22 hi0 hz0 hz1 hz2 rfl δ v L1.length _ hs XD ⟨g,0,none⟩ L2.length c (jD.flatMap VC) hx EI.1 (EI.cells rfl) (Ĕ hf2) (by unfold maxLen;omega) ω hbase fun v' w' r1 r2 _ _=>?_
  have hbl:Below base w w':=(Below.refl _ _).grown r2 hbase (fun k hk=>(XD.lt k hk).1);refine h v' w' ⟨jE++jD,by rw[List.map_append,e1,e2],by rw[List.flatMap_append,List.length_append];exact r1,fun p hp=>?_⟩ hbl;rcases List.mem_append.1 hp with hp|hp
  ·exact(Pe p hp).below hbl hB
  ·exact(hf2 p hp).below hbl hB
theorem Ĳ(w:World)(B:Nat)(nd:Nd)(s:Value)(hf:Fs w (Lo B) s nd.c)(hB:B≤w.heap.size):K3 (w.alloc (θ #[ι γ nd.k,σ nd.x,σ nd.y,s] 24)) B w.heap.size (ς (some ⟨w.heap.size,0,none⟩) 1 1) [nd] :=
 ⟨[(nd,s)],rfl,⟨rfl,.inr ⟨w.heap.size,1,_,rfl,QI _,heap_alloc_new w _,QI _,by unfold maxLen;omega,rfl,rfl⟩⟩,fun p hp=>by
   simp only[List.mem_singleton]at hp;subst hp;exact hf.below (Qa _ _) hB⟩
structure oz(w wr:World)(B:Nat)(v:Value)(T L:List Nd)(R:F)(m:Nat):Prop where
 QF:Below w.heap.size w wr
 own:K3 wr B (w.heap.size+1) v L
 eq:(L++nodes R).take m=T.take m
 le:L.length≤m
theorem Qnx{α:Type}{L kn R:List α}{m:Nat}(h:L.length≤m):(L++(kn.take (m-L.length)++R)).take m=(L++(kn++R)).take m:=by
 rw[List.take_append,List.take_append,List.take_append,List.take_append];by_cases hk:kn.length≤m-L.length
 ·rw[List.take_of_length_le (l:=kn) hk];rw[List.take_of_length_le (l:=kn) hk]
 ·have e:(kn.take (m-L.length)).length=m-L.length:=by rw[List.length_take];omega
  rw[e,List.take_take,Nat.min_self,Nat.sub_self,show m-L.length-kn.length=0 by omega]
def iN(N:Nat):Prop:=∀(k:Int)(x y:ByteArray)(A:Option Addr)(n C:Nat)(c:F)(m B:Nat)(w:World),c.size≤N→Fs w (Lo B) (ς A n C) c→B≤w.heap.size→1≤m→m≤100000→
 Calls Tryz.prog 33 #[ξ #[ι γ k,σ x,σ y,ς A n C],ι γ (m:Int)] w fun e w'=>(∃v,e=ρ v∧K3 w' B w.heap.size v ((⟨k,x,y,c⟩::nodes c).take m))∧Below w.heap.size w w'
theorem Qla(N:Nat)(ih:∀M,M<N→iN M):iN N:=by
 intro k x y A n C c m B w hN hf hB EJ hm2;have Sm:=QA ih;have b1:=Qa w (θ #[ι γ k,σ x,σ y,ς A n C] 24);have b2:=Qa (w.alloc (θ #[ι γ k,σ x,σ y,ς A n C] 24)) (θ #[ι γ k,σ x,σ y,ς A n C] 24);have b3:=b1.trans (b2.mono b1.size);obtain⟨A0,C0,e,Ld,RS⟩:=hf.slice;injection e with q1 q2 q3;subst q1;subst q2;subst q3;obtain⟨T,hT⟩:=Mem.QD ((⟨k,x,y,c⟩::nodes c:List Nd));have HM:Hid (oz w ((w.alloc (θ #[ι γ k,σ x,σ y,ς A c.len C] 24)).alloc (θ #[ι γ k,σ x,σ y,ς A c.len C] 24)) B (ς (some ⟨w.heap.size+1,0,none⟩) 1 1) T [⟨k,x,y,c⟩] (c.drop 0) m):=by
  refine⟨b3,?_,by rw[←hT];rfl,EJ⟩;have:=Ĳ (w.alloc (θ #[ι γ k,σ x,σ y,ς A c.len C] 24)) B ⟨k,x,y,c⟩ (ς A c.len C) (hf.below b1 hB) (QW hB b1.size);have e:(w.alloc (θ #[ι γ k,σ x,σ y,ς A c.len C] 24)).heap.size=w.heap.size+1:=ψ
  rw[e]at this;exact this
 have KB:Hid (∀W,Below (w.heap.size+1) (w.alloc (θ #[ι γ k,σ x,σ y,ς A c.len C] 24)) W→W.cell? ⟨w.heap.size,3,none⟩=some (ς A c.len C)):=fun W hW=>by
  rw[hW.cell (p:=⟨w.heap.size,3,none⟩) (by show w.heap.size<_;omega),World.cell?_alloc_at _ _ _ _ rfl];rfl
 have HF:=QA hf;have HB:=QA hB;have FT:C≤9223372036854775807:=RS;rw[hT];have JP:Hid (Below (w.heap.size+1) (w.alloc (θ #[ι γ k,σ x,σ y,ς A c.len C] 24)) ((w.alloc (θ #[ι γ k,σ x,σ y,ς A c.len C] 24)).alloc (θ #[ι γ k,σ x,σ y,ς A c.len C] 24))):=by show Below _ _ _;have:=b2;simpa using this
 obtain⟨n,hn⟩:=Mem.QD (c.len);rw[hn]at HM KB HF Ld JP⊢;have HN:=QA hn;clear ih hf b1 b2 b3 hB hT hn;go_enter Tryz.func33,Tryz.ntmps33;go_wp2
 go_loopw [5,6] (fun s5 s6 wr=>∃(i ln cp:Nat)(Al:Option Addr)(L:List Nd),i≤n∧L.length=ln∧ln≤m∧ln≤cp∧s6=ι γ (i:Int)∧s5=ς Al ln cp∧Hid (oz w wr B (ς Al ln cp) T L (c.drop i) m)∧Hid (Below (w.heap.size+1) (w.alloc (θ #[ι γ k,σ x,σ y,ς A n C] 24)) wr)) (fun _ i _=>n-(intOf i).toNat)
 case atStart=>exact⟨0,1,1,_,[⟨k,x,y,c⟩],ZR _,rfl,EJ,QI _,rfl,rfl,HM.out,JP.out⟩
 case round =>
  clear HM JP;obtain⟨i,ln,cp,Al,L,hi,hL,hlm,hlc,rfl,rfl,HM,JP⟩:=hrel;have Ns:=KB.out wr JP.out;by_cases hin:i<n
  ·have cd:(i:Int)<(n:Int):=ω
   by_cases hlt:ln<m
   ·have hlt':(ln:Int)<(m:Int):=ω
    obtain⟨kk,kx,ky,kc,kr,hdr,YZ⟩:=F.drop_cons (n:=i) (f:=c) (by rw[HN.out];exact hin);have hfw:=HF.out.below HM.out.QF HB.out;obtain⟨b2,UW,s2,rfl,PO,_,VA⟩:=hfw.at_ hdr;obtain⟨Ak,Ck,rfl,_,_⟩:=VA.kids.slice;have e0:=VA.c0;have e1:=VA.c1;have e2:=VA.c2;have e3:=VA.c3;have hi0:(0:Int)≤(i:Int):=ω
    have LU:=Ge hdr;have hsub:((m-ln:Nat):Int)=(m:Int)-(ln:Int):=ω
    have hcall:=Sm.out kc.size ω kk kx ky Ak kc.len Ck kc (m-ln) B wr (QI _) VA.kids (QW HB.out HM.out.QF.size) ω ω;rw[hsub]at hcall;have HC:=QA hcall;have WL:(L++((⟨kk,kx,ky,kc⟩::nodes kc:List Nd).take (m-L.length)++nodes (c.drop (i+1)))).take m=T.take m:=by rw[Qnx ω,←HM.out.eq,hdr,YZ];rfl
    rw[hL]at WL;have hkl:((⟨kk,kx,ky,kc⟩::nodes kc:List Nd).take (m-ln)).length≤m-ln:=by rw[List.length_take];omega
    have hkn:(⟨kk,kx,ky,kc⟩::nodes kc:List Nd).take (m-ln)≠[]:=by obtain⟨q,hq⟩:∃q,m-ln=q+1:=⟨m-ln-1,ω⟩;rw[hq];simp
    generalize(⟨kk,kx,ky,kc⟩::nodes kc:List Nd).take (m-ln)=K at *;have wX:=QA WL;have MG:=QA hkn;clear hdr YZ hfw VA PO hcall WL hkn LU hsub;go_wp2_with fail;refine HC.out.mono ?_;rintro e w2 ⟨⟨v2,rfl,EI⟩,hb2⟩;obtain⟨a2,c2,rfl,hc2,cL⟩:=EI.slice;have uw:=QA EI;have OT:=QA (HM.out.own.below hb2 (QW HB.out HM.out.QF.size));have BA:=QA (HM.out.QF.trans (hb2.mono HM.out.QF.size));have eo:=QA (JP.out.trans (hb2.mono (by have:=JP.out.size;simpa using this)));have Hi:Hid (w.heap.size+1≤w2.heap.size):=by show _≤_;have:=eo.out.size;simpa using this
    clear EI hb2 hc2 cL;go_wp2_with (at_builtin;refine Qpx w2 rfl _ _ rfl B (w.heap.size+1) wr.heap.size _ L K _ _ _ rfl rfl OT.out uw.out (Nat.le_succ_of_le HB.out) Hi.out MG.out ?_ ?_)
    ·omega
    intro v3 w3 UY hb3;obtain⟨a3,c3,rfl,hc3,WM⟩:=UY.slice;have hll:(L++K).length=ln+K.length:=by rw[List.length_append,hL]
    rw[hll]at hc3⊢;have uD:Hid (oz w w3 B (ς a3 (ln+K.length) c3) T (L++K) (c.drop (i+1)) m):=by
     refine⟨BA.out.trans (hb3.mono (Nat.le_succ _)),?_,?_,ω⟩
     ·rw[hll]at UY;exact UY
     ·have:=wX.out;rwa[←List.append_assoc]at this
    have Q0w:=QA (eo.out.trans hb3);clear UY hb3 WM;go_wp2
    go_roundw
    case rel=>exact⟨i+1,ln+K.length,c3,a3,L++K,ω,hll,ω,hc3,by go_num,rfl,uD.out,Q0w.out⟩
    case measure=>simp[intOf];omega
   ·have hlt':¬(ln:Int)<(m:Int):=ω
    have HE:Hid (L=T.take m):=by show L=_;rw[←HM.out.eq,List.take_append_of_le_length ω,List.take_of_length_le ω]
    clear hlt;exact c126
  ·have cd:¬(i:Int)<(n:Int):=ω
   have HE:Hid (L=T.take m):=by show L=_;rw[←HM.out.eq,F.JG _ _ (by rw[HN.out];omega)];simp only[nodes,List.append_nil];rw[List.take_of_length_le ω]
   clear hin;exact c126
theorem š(N:Nat):iN N:=by
 induction N using Nat.strongRecOn with
 |_ N ih=>exact Qla N ih
def wt(nd:Nd):Nat:=min nd.x.size 100000+min nd.y.size 100000
def QU(L:List Nd):Nat:=L.foldr (fun nd s=>wt nd+s) 0
theorem oc(nd:Nd)(L:List Nd):QU (nd::L)=wt nd+QU L:=rfl
theorem Yv:∀L1 L2:List Nd,QU (L1++L2)=QU L1+QU L2
 |[],L2=>by simp[QU]
 |nd::L,L2=>by rw[List.cons_append,oc,oc,Yv L L2];omega
theorem Qc0{L:List Nd}{i:Nat}{nd:Nd}(h:L[i]?=some nd):QU (L.take (i+1))=QU (L.take i)+wt nd:=by
 rw[List.take_add_one,h,Yv];simp[QU]
theorem Qgd(L:List Nd)(i:Nat):QU (L.take i)≤QU L:=by
 have:=Yv (L.take i) (L.drop i);rw[List.take_append_drop]at this;omega
theorem Qq3{L:List Nd}{nd:Nd}(h:nd∈L):wt nd≤QU L:=by
 induction L with
 |nil=>cases h
 |cons a L ih =>
  rw[oc];rcases List.mem_cons.1 h with rfl|h
  ·omega
  ·have:=ih h;omega
def OB(k:Int)(x y:ByteArray)(c:F):Bool:=decide (QU (((⟨k,x,y,c⟩:Nd)::nodes c).take 2001)≤50000)&&decide ((((⟨k,x,y,c⟩:Nd)::nodes c).take 2001).length≤2000)
theorem iJ:∀(c:F),(∀nd∈nodes c,wt nd≤50000)→Zp c
 | .nil,_=>trivial
 | .cons k x y c r,h=>by
   have h0:=h ⟨k,x,y,c⟩ (by simp[nodes]);simp only[wt]at h0;exact⟨ω,ω,iJ c fun nd hn=>h nd (by simp[nodes,hn]),iJ r fun nd hn=>h nd (by simp[nodes,hn])⟩
structure eF(x y:ByteArray)(c:F):Prop where
 hx:x.size≤50000
 hy:y.size≤50000
 sm:Zp c
 sz:c.size<2000
theorem Qy3{k:Int}{x y:ByteArray}{c:F}(h:OB k x y c=true):eF x y c:=by
 unfold OB at h;rw[Bool.and_eq_true,decide_eq_true_eq,decide_eq_true_eq]at h;obtain⟨h1,h2⟩:=h;have hl:(((⟨k,x,y,c⟩:Nd)::nodes c)).length=c.size+1:=by rw[List.length_cons,Qj]
 rw[List.length_take,hl]at h2;rw[List.take_of_length_le ω]at h1;have hm:=fun nd (hn:nd∈(⟨k,x,y,c⟩:Nd)::nodes c)=>Nat.le_trans (Qq3 hn) h1
 have h0:=hm ⟨k,x,y,c⟩ (List.mem_cons_self ..);simp only[wt]at h0;exact⟨ω,ω,iJ c fun nd hn=>hm nd (List.mem_cons_of_mem _ hn),ω⟩
theorem Qwh(k:Int)(x y:ByteArray)(A:Option Addr)(n C:Nat)(c:F)(w:World)(hf:Fs w (Lo w.heap.size) (ς A n C) c) :
 Calls Tryz.prog 22 #[ξ #[ι γ k,σ x,σ y,ς A n C]] w fun e w'=>e=ρ (τ (OB k x y c))∧Below w.heap.size w w':=by
 have b1:=Qa w (θ #[ι γ k,σ x,σ y,ς A n C] 24);have HC:=Lib.hid (š c.size k x y A n C c 2001 w.heap.size (w.alloc (θ #[ι γ k,σ x,σ y,ς A n C] 24)) (Nat.le_refl _) (hf.below b1 (Nat.le_refl _)) b1.size ω ω);have HV:Hid (OB k x y c=(decide (QU (((⟨k,x,y,c⟩:Nd)::nodes c).take 2001)≤50000)&&decide ((((⟨k,x,y,c⟩:Nd)::nodes c).take 2001).length≤2000))):=rfl;have HL:Hid ((((⟨k,x,y,c⟩:Nd)::nodes c).take 2001).length≤2001):=by show _≤_;rw[List.length_take];omega
 have HB:=Lib.hid b1;generalize((⟨k,x,y,c⟩:Nd)::nodes c).take 2001=L at *;generalize OB k x y c=bb at *;obtain⟨ln,YO⟩:=Mem.QD (L.length);rw[YO]at HV HL;have J':=Lib.hid YO;have hl2:=HL.out;clear b1 hf YO HL;go_enter Tryz.func22,Tryz.ntmps22;go_wp2_with fail;refine HC.out.mono ?_;rintro e w1 ⟨⟨v1,rfl,XD⟩,hb1⟩;obtain⟨a1,c1,rfl,hc1,Nw⟩:=XD.slice;rw[J'.out]at hc1 XD⊢;have HO:=Lib.hid XD;have Z':=VO HB hb1;have Q3b:c1≤9223372036854775807:=Nw;clear XD hb1 HC Nw;go_wp2
 go_loopw [4,5] (fun s4 s5 wr=>∃i q m:Nat,i≤ln∧s5=ι γ (i:Int)∧s4=ι γ (m:Int)∧m≤50000∧Hid (m=QU (L.take i))∧wr=w1.drewN q) (fun _ s5 _=>ln-(intOf s5).toNat)
 case atStart=>exact⟨0,0,0,Nat.zero_le _,rfl,rfl,ω,(by show _=_;simp[QU]),rfl⟩
 case round =>
  obtain⟨i,q,m,hi,rfl,rfl,hm,KL,rfl⟩:=hrel;by_cases hlt:i<ln
  ·obtain⟨nd,hnd⟩:∃nd,L[i]?=some nd:=⟨_,List.getElem?_eq_getElem (by rw[J'.out];exact hlt)⟩;obtain⟨g,s,rfl,_,_,_,d1,d2,_,_⟩:=HO.out.at_ hnd;have e1:∀q,(w1.drewN q).cell? ⟨g,i*4+1,none⟩=some (σ nd.x):=fun _=>d1
   have e2:∀q,(w1.drewN q).cell? ⟨g,i*4+2,none⟩=some (σ nd.y):=fun _=>d2
   have hlt':(i:Int)<(ln:Int):=ω
   have hi0:(0:Int)≤(i:Int):=ω
   have HS:Hid (m+(min nd.x.size 100000+min nd.y.size 100000)=QU (L.take (i+1))):=by show _=_;rw[Qc0 hnd,←KL.out];rfl
   have LH:=Lib.hid (Qgd L (i+1));clear hnd d1 d2 KL;have hA:min ((nd.x.size:Nat):Int) 100000=((min nd.x.size 100000:Nat):Int):=ω
   have hAB:min ((nd.y.size:Nat):Int) 100000=((min nd.y.size 100000:Nat):Int):=ω
   have Dz:(if(100000:Int)<((nd.x.size:Nat):Int)then(100000:Int)else((nd.x.size:Nat):Int))=((min nd.x.size 100000:Nat):Int):=by split <;> omega
   have Q3f:(if(100000:Int)<((nd.y.size:Nat):Int)then(100000:Int)else((nd.y.size:Nat):Int))=((min nd.y.size 100000:Nat):Int):=by split <;> omega
   generalize min nd.x.size 100000=ta at *;generalize min nd.y.size 100000=tb at *;generalize nd.x=tx at *;generalize nd.y=ty at *;by_cases hgt:50000<m+(ta+tb)
   ·have WB:(50000:Int)<(m:Int)+(ta:Int)+(tb:Int):=ω
    have HE:Hid (bb=false):=by show _=_;rw[HV.out,decide_eq_false (by have:=HS.out;have:=LH.out;omega)];rfl
    clear hgt;go_wp2
    go_quiet (fail)
    exact c115
   ·have WB:¬(50000:Int)<(m:Int)+(ta:Int)+(tb:Int):=ω
    have hle:m+(ta+tb)≤50000:=ω
    clear hgt;go_wp2
    go_quiet (fail)
    go_wp2
    go_roundw
    case rel=>exact⟨i+1,_,m+(ta+tb),ω,by go_num,by go_num,hle,HS.out,rfl⟩
    case measure=>simp[intOf];omega
  ·have hlt':¬(i:Int)<(ln:Int):=ω
   obtain rfl:i=ln:=ω
   have HE:Hid (bb=decide (i≤2000)):=by show _=_;rw[HV.out,decide_eq_true,Bool.true_and];rw[List.take_of_length_le (by rw[J'.out];exact Nat.le_refl _)]at KL;rw[←KL.out];exact hm
   clear hlt KL;by_cases h2:i≤2000
   ·have h2':(i:Int)≤2000:=ω
    rw[decide_eq_true h2]at HE;clear h2;exact c115
   ·have h2':¬(i:Int)≤2000:=ω
    rw[decide_eq_false h2]at HE;clear h2;exact c115
