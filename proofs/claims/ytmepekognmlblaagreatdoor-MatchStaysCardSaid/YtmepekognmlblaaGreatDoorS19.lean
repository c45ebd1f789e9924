import Derived.Test.YtmepekognmlblaaGreatDoorS12
import Derived.Test.YtmepekognmlblaaGreatDoorS18
set_option maxHeartbeats 4000000
set_option maxRecDepth 100000
set_option linter.unusedVariables false
open Go.ChangeShapes Go.WideShapes Go.ChangeAt Go.RowKit Go.Proofs.Tryz
open Go.Lib renaming hid→QA
open Go.Value renaming string→σ,int→ι,slice→ς,pointer→π,bool→τ
open Go.IntKind renaming i64→γ
open Go.Obj renaming cells→θ
open Go.Ending renaming returned→ρ
namespace Go.Proofs.YtmepekognmlblaaGreatDoor
namespace Lex
open Ro Lm
theorem G5(g b0 off n cap:Nat)(s:St)(k:Int)(a b m:Nat)(xs:List Int)(w:World)(hb':b=a+m)(hc:Cg g (some ⟨b0,off,none⟩) n cap s w)(LA:RB w g (some ⟨b0,off,none⟩) xs)(hn:xs.length=n)(Od:n≤cap)(Du:cap≤maxLen)(hm:0<m)(lu:b≤n)(hsm:n≤1000000)(hl:s.ZH.length≤3000000) :
 Calls Tryz.prog 143 #[ι γ k,ι γ (a:Int),ι γ (b:Int),π (some ⟨g+1+1+1,0,none⟩),π (some ⟨g+1,0,none⟩),π (some ⟨g+1+1+1+1,0,none⟩),π (some ⟨g+1+1,0,none⟩),π (some ⟨g,0,none⟩)] w (K2 g (some ⟨b0,off,none⟩) n cap (keep s k ((xs.drop a).take m) a) w):=by
 by_cases h8:k=8
 ·subst h8;by_cases ho:s.opn=true
  ·exact þ g _ n cap s a b w hc ho hl _
  ·exact iH g _ n cap s 8 a b w hc (.inl ⟨rfl,by simpa using ho⟩) _
 by_cases h7:k=7
 ·exact iH g _ n cap s k a b w hc (.inr h7) _
 ·exact Quq g b0 off n cap s k a b m xs w w (Below.refl _ _) hb' hc LA hn Od Du hm lu hsm h8 h7 hl
theorem Qrr(g:Nat)(A:Option Addr)(n cap:Nat)(s:St)(a b:Nat)(w:World)(hc:Cg g A n cap s w)(hl:s.ZH.length≤3000000) :
 Calls Tryz.prog 143 #[ι γ 8,ι γ (a:Int),ι γ (b:Int),π (some ⟨g+1+1+1,0,none⟩),π (some ⟨g+1,0,none⟩),π (some ⟨g+1+1+1+1,0,none⟩),π (some ⟨g+1+1,0,none⟩),π (some ⟨g,0,none⟩)] w (K2 g A n cap (keep s 8 [] 0) w):=by
 have e:keep s 8 [] 0=keep s 8 [] a:=by simp[keep]
 rw[e];by_cases ho:s.opn=true
 ·exact þ g _ n cap s a b w hc ho hl _
 ·exact iH g _ n cap s 8 a b w hc (.inl ⟨rfl,by simpa using ho⟩) _
def Way(xs:List Int)(n k:Nat)(s:St):Prop:=∃f,n-k≤f∧Yn f (xs.drop k) k s=Yn n xs 0 st0
theorem Qns(xs:List Int)(n:Nat):Way xs n 0 st0:=⟨n,ω,by rw[List.drop_zero]⟩
theorem Qqf{xs:List Int}{n k:Nat}{s:St}(h:Way xs n k s)(hn:xs.length=n)(hk:k<n)(hp:(piece (xs.drop k)).2≠0) :
 Way xs n (k+(piece (xs.drop k)).2) (keep s (piece (xs.drop k)).1 ((xs.drop k).take (piece (xs.drop k)).2) k):=by
 obtain⟨f,hf,h⟩:=h;cases f with
 |zero=>omega
 |succ f =>
  refine⟨f,ω,?_⟩;rw[←h];conv=>rhs;unfold Yn
  rw[if_neg hp,List.drop_drop]
theorem Ň{xs:List Int}{n k:Nat}{s:St}(h:Way xs n k s)(hp:(piece (xs.drop k)).2=0):Yn n xs 0 st0=(s,k):=by
 obtain⟨f,hf,h⟩:=h;rw[←h];cases f with
 |zero=>rfl
 |succ f=>unfold Yn;rw[if_pos hp]
def Ĩ(xs:List Int)(w:World)(e:Ending)(w':World):Prop :=
 ∃v,e=ρ (.tuple #[v,ι γ ((xs.length-(left xs).length:Nat):Int)])∧Ez w' w.heap.size v (ZH xs)∧Below w.heap.size w w'
theorem Ŏ{xs:List Int}{n k:Nat}{s:St}{g:Nat}{A:Option Addr}{cap:Nat}{w w':World}(hn:xs.length=n)(h:Yn n xs 0 st0=(s,k))(hg:g=w.heap.size)(hc:Cg g A n cap (keep s 8 [] 0) w')(hb:Below g w w') :
 ∃v,w'.heap[g+1]?=some (θ #[v] 137 (0,0))∧(∃a c,v=ς a (ZH xs).length c)∧Ĩ xs w (ρ (.tuple #[v,ι γ (k:Int)])) w':=by
 subst hg;subst hn;rw[Qqg]at h;obtain⟨h1,h2⟩:Uc st0 0 (pieces xs)=s∧xs.length-(left xs).length=k:=by simpa using h
 obtain⟨v,hv,ho⟩:=hc.l;rw[←h1,Qpa]at ho;obtain⟨a,c,e,_,_⟩:=Xf ho;exact⟨v,hv,⟨a,c,e⟩,v,by rw[h2],ĳ ho ω,hb⟩
theorem Q0d{w:World}{o1 o2 o3 o4 o5:Obj} :
 ((((((w.alloc o1).alloc o2).alloc o3).alloc o4).alloc o5).heap[w.heap.size]?=some o1)∧((((((w.alloc o1).alloc o2).alloc o3).alloc o4).alloc o5).heap[w.heap.size+1]?=some o2)∧
 ((((((w.alloc o1).alloc o2).alloc o3).alloc o4).alloc o5).heap[w.heap.size+2]?=some o3)∧((((((w.alloc o1).alloc o2).alloc o3).alloc o4).alloc o5).heap[w.heap.size+3]?=some o4)∧
 ((((((w.alloc o1).alloc o2).alloc o3).alloc o4).alloc o5).heap[w.heap.size+4]?=some o5):=by
 have k:∀(W:World)(o:Obj)(i:Nat),i<W.heap.size→(W.alloc o).heap[i]?=W.heap[i]?:=fun W o i hi=>Below.heap_alloc W o i hi
 have z:∀(W:World)(o:Obj),(W.alloc o).heap.size=W.heap.size+1:=fun W o=>ψ
 have nw:∀(W:World)(o:Obj)(i:Nat),i=W.heap.size→(W.alloc o).heap[i]?=some o:=fun W o i hi=>by subst hi;exact heap_alloc_new W o
 refine⟨?_,?_,?_,?_,?_⟩
 ·rw[k _ _ _ (by simp only[z];omega),k _ _ _ (by simp only[z];omega),k _ _ _ (by simp only[z];omega),k _ _ _ (by simp only[z];omega),nw _ _ _ rfl]
 ·rw[k _ _ _ (by simp only[z];omega),k _ _ _ (by simp only[z];omega),k _ _ _ (by simp only[z];omega),nw _ _ _ (by simp only[z])]
 ·rw[k _ _ _ (by simp only[z];omega),k _ _ _ (by simp only[z];omega),nw _ _ _ (by simp only[z])]
 ·rw[k _ _ _ (by simp only[z];omega),nw _ _ _ (by simp only[z])]
 ·rw[nw _ _ _ (by simp only[z])]
theorem Qza(A:Option Addr)(n cap:Nat)(w:World):Cg w.heap.size A n cap st0 (((((w.alloc (θ #[ς A n cap] 103)).alloc (θ #[ς none 0 0] 137)).alloc (θ #[τ true] 4)).alloc (θ #[τ false] 4)).alloc (θ #[ι γ 0] 3)):=by
 obtain⟨h1,h2,h3,h4,h5⟩:=@Q0d w (θ #[ς A n cap] 103) (θ #[ς none 0 0] 137) (θ #[τ true] 4) (θ #[τ false] 4) (θ #[ι γ 0] 3);exact⟨h1,⟨ς none 0 0,h2,World.ownsRow_nil _ _ _ _⟩,h3,h4,h5⟩
theorem Qps(o1 o2 o3 o4 o5:Obj)(w:World):Below w.heap.size w (((((w.alloc o1).alloc o2).alloc o3).alloc o4).alloc o5) :=
 (((((Below.refl _ _).alloc (Nat.le_refl _) _).alloc ψ _).alloc (by simp;omega) _).alloc (by simp;omega) _).alloc (by simp;omega) _
theorem Qrq(A:Option Addr)(n cap:Nat)(xs:List Int)(w:World)(B:Nat)(h:RB w B A xs)(hB:B≤w.heap.size)(hn:xs.length=n)(hcap:n≤cap)(QT:cap≤maxLen)(hsm:n≤1000000)(hT:XF w) :
 Calls Tryz.prog 134 #[ς A n cap] w (Ĩ xs w):=by
 have HR:=QA h;have Hn:=QA hn;have HT:=QA hT;have oF:=QA QT;have DY:=QA (Qza A n cap w);clear h hn hT;unfold maxLen at QT;go_enter Tryz.func134,Tryz.ntmps134;go_wp2;have Rf:=QA (Qps (θ #[ς A n cap] 103) (θ #[ς none 0 0] 137) (θ #[τ true] 4) (θ #[τ false] 4) (θ #[ι γ 0] 3) w);generalize((((w.alloc (θ #[ς A n cap] 103)).alloc (θ #[ς none 0 0] 137)).alloc (θ #[τ true] 4)).alloc (θ #[τ false] 4)).alloc (θ #[ι γ 0] 3)=W5 at *
 go_loopw [5,6,7] (fun at_ _ _ wr=>∃(k:Nat)(s:St),k≤n∧at_=ι γ k∧Hid (Way xs n k s)∧Hid (Cg w.heap.size A n cap s wr)∧Hid (Below w.heap.size w wr)∧s.ZH.length≤2*k) (fun at_ _ _ _=>n-(intOf at_).toNat)
 case atStart=>exact⟨0,st0,Nat.zero_le _,rfl,Qns xs n,DY.out,Rf.out,by simp[st0]⟩
 case round =>
  obtain⟨k,s,hk,rfl,Cu,xK,ZX,hlen⟩:=hrel;have OU:=QA (fun(W:World)(hc:Cg w.heap.size A n cap s W)=>Qrr w.heap.size A n cap s k k W hc ω);by_cases hlt:k<n
  ·obtain⟨b,off,rfl,I8,hcell⟩:=HR.out.cell (by intro e;have:=Hn.out;rw[e]at this;simp at this;omega);have WK:¬cap=k:=ω
   have RP:(xs.drop k).length=n-k:=by rw[List.length_drop,Hn.out]
   have LA:=HR.out.below ZX.out hB;have D7:RB wr B (some ⟨b,off+k,none⟩) (xs.drop k):=by
    have:=LA.drop (k:=k) (cap:=cap) (by rw[Hn.out];omega) (by rw[Hn.out];omega);rw[if_neg WK]at this;have e:(⟨b,off,none⟩:Addr).add k=⟨b,off+k,none⟩:=by unfold Addr.add;split <;> simp_all
    simpa[e]using this
   have SB:=QA (fW (some ⟨b,off+k,none⟩) (n-k) (cap-k) (xs.drop k) wr B D7 (by have:=ZX.out.size;omega) RP ω ω (by unfold maxLen;omega) ω (HT.out.below ZX.out HT.out.pos));have BD:Hid ((piece (xs.drop k)).2≤n-k):=by have:=ie (xs.drop k);rw[RP]at this;exact this
   have HST:Hid ((piece (xs.drop k)).2=0→Yn n xs 0 st0=(s,k)):=Ň Cu.out;have vT:Hid ((piece (xs.drop k)).2≠0→Way xs n (k+(piece (xs.drop k)).2) (keep s (piece (xs.drop k)).1 ((xs.drop k).take (piece (xs.drop k)).2) k)):=Qqf Cu.out Hn.out hlt;have Io:Hid (∀W,Below w.heap.size w W→RB W w.heap.size (some ⟨b,off,none⟩) xs):=fun W hW=>(HR.out.below hW hB).more hB
   generalize piece (xs.drop k)=P at *;obtain⟨kk,m⟩:=P;clear Cu LA D7 RP hcell;by_cases hm0:m=0
   ·subst hm0;have SA:=QA (HST.out rfl);clear HST vT BD Io;go_wp2_with (go_at_call 153;refine SB.out.mono ?_;rintro e wn ⟨rfl,UJ⟩);refine(OU.out _ (xK.out.below UJ)).mono ?_;rintro e w' ⟨rfl,hc1,hb1⟩;obtain⟨v,hv,⟨a1,c1,rfl⟩,hp⟩:=Ŏ Hn.out SA.out rfl hc1 ((ZX.out.trans (UJ.mono (by have:=xK.out.size;omega))).trans hb1);have HP:=QA hp;have hcv:=cell_of_one hv;clear hv hp hc1 hb1 UJ;go_wp2
    go_ret2
    exact HP.out
   ·have hmb:((m:Int)==0)=false:=Zc ω;have SA:=QA (vT.out hm0);have Bn:=BD.out;clear HST vT BD;go_wp2_with (go_at_call 153;refine SB.out.mono ?_;rintro e wn ⟨rfl,UJ⟩);have xJ:=xK.out.below UJ;have Dv:=ZX.out.trans (UJ.mono (by have:=xK.out.size;omega));have hrow:=G5 w.heap.size b off n cap s kk k (k+m) m xs wn rfl xJ (Io.out _ Dv) Hn.out hcap oF.out ω ω hsm ω;rw[show((k+m:Nat):Int)=(k:Int)+(m:Int)from by omega]at hrow;have hl2:(keep s kk ((xs.drop k).take m) k).ZH.length≤s.ZH.length+2:=Qxv;have XP:=QA hrow;have UQ:=QA Dv;clear hrow xJ Dv UJ
    with_reducible refine XP.out.mono ?_
    rintro e w' ⟨rfl,hc1,hb1⟩;have jo:=QA hc1;have Z':=QA hb1;clear hc1 hb1;go_wp2
    go_roundw
    case rel=>exact⟨k+m,_,ω,by go_num,SA.out,jo.out,UQ.out.trans Z'.out,ω⟩
    case measure=>simp[intOf];omega
  ·have HST:=QA (Ň Cu.out (show(piece (xs.drop k)).2=0 by rw[List.drop_eq_nil_of_le (by rw[Hn.out];omega)];rfl));clear Cu;go_wp2_with fail
   with_reducible refine(OU.out _ xK.out).mono ?_
   rintro e w' ⟨rfl,hc1,hb1⟩;obtain⟨v,hv,⟨a1,c1,rfl⟩,hp⟩:=Ŏ Hn.out HST.out rfl hc1 (ZX.out.trans hb1);have HP:=QA hp;have hcv:=cell_of_one hv;clear hv hp hc1 hb1;go_wp2
   go_ret2
   exact HP.out
def J3(xs:List Int)(w:World)(e:Ending)(w':World):Prop :=
 ∃v,e=ρ (.tuple #[v,ι γ (pC xs:Int),ι γ (OG xs)])∧Ez w' w.heap.size v (vB xs)∧Below w.heap.size w w'
theorem Yt{xs:List Int}{w w':World}{v:Value}{nn:Int}{ee:Int}(h1:nn=(pC xs:Int))(h2:ee=OG xs)(h3:Ez w' w.heap.size v (vB xs))(h4:Below w.heap.size w w') :
 J3 xs w (ρ (.tuple #[v,ι γ nn,ι γ ee])) w':=⟨v,by rw[h1,h2],h3,h4⟩
theorem Qkc(A:Option Addr)(n cap:Nat)(xs:List Int)(w:World)(B:Nat)(h:RB w B A xs)(hB:B≤w.heap.size)(hn:xs.length=n)(hcap:n≤cap)(QT:cap≤maxLen)(hsm:n≤1000000)(hT:XF w) :
 Calls prog 113 #[ς A n cap] w (J3 xs w):=by
 have zA:=Lib.hid (Qws A n cap xs w B h hn hcap QT);have XP:=Lib.hid (Qrq A n cap xs w B h hB hn hcap QT hsm hT);have Q3c:bad xs≤n:=by rw[←hn];exact Qzd h.Bu
 have Wq:(left xs).length≤n:=by rw[←hn];exact Qvk xs
 have hE:OG xs=if bad xs<n then 3 else if left xs=[]then 0 else 4:=by rw[←hn];rfl
 have hN:pC xs=if bad xs<n then bad xs else if left xs=[]then 0 else n-(left xs).length:=by rw[←hn];rfl
 have vh:vB xs=if OG xs=0 then ZH xs else[]:=rfl
 have hlen:left xs=[]↔(left xs).length=0:=ψ
 have Hn:=Lib.hid hn;have hnn:¬(16777216:Int)<(n:Int):=ω
 unfold maxLen at QT;clear h hn hT;by_cases hb:bad xs<n
 ·rw[if_pos hb]at hE hN;have hfin:Hid (∀nn ee,nn=(bad xs:Int)→ee=(3:Int)→J3 xs w (ρ (.tuple #[ς none 0 0,ι γ nn,ι γ ee])) w):=fun nn ee h1 h2=>Yt (by rw[h1,hN]) (by rw[h2,hE]) (by rw[vh,hE];exact World.ownsRow_nil _ _ _ _) (Below.refl _ _)
  clear hE hN vh XP Wq hlen Hn;generalize bad xs=p at *;have hpb:(p:Int)<(n:Int):=ω
  go_enter func113,ntmps113;go_wp2_with (go_at_call 133;refine zA.out.mono ?_;rintro e w' ⟨rfl,rfl⟩)
  go_ret3
  exact hfin.out _ _ rfl rfl
 ·rw[if_neg hb]at hE hN;have hpb:¬(bad xs:Int)<(n:Int):=ω
  generalize bad xs=p at *;by_cases hl:left xs=[]
  ·rw[if_pos hl]at hE hN;have hl0:=hlen.1 hl;have hfin:Hid (∀v w',Ez w' w.heap.size v (ZH xs)→Below w.heap.size w w'→J3 xs w (ρ (.tuple #[v,ι γ 0,ι γ 0])) w'):=fun v w' h1 h2=>Yt (by rw[hN];rfl) hE.symm (by rw[vh,hE];exact h1) h2
   have DX:Hid (Calls prog 134 #[ς A n cap] w fun e w'=>∃v,e=ρ (.tuple #[v,ι γ (n:Int)])∧Ez w' w.heap.size v (ZH xs)∧Below w.heap.size w w'):=XP.out.mono fun e w' ⟨v,h1,h2,h3⟩=>⟨v,by rw[h1,Hn.out,hl0,Nat.sub_zero],h2,h3⟩
   clear hE hN vh XP Wq hlen Hn hl hl0;go_enter func113,ntmps113;go_wp2_with (first|(go_at_call 133;refine zA.out.mono ?_;rintro e w' ⟨rfl,rfl⟩)|(go_at_call 134;refine DX.out.mono ?_;rintro e w' ⟨v,rfl,ho,hbl⟩))
   go_ret3
   exact hfin.out _ _ ho hbl
  ·rw[if_neg hl]at hE hN;have hl0:((n-(left xs).length:Nat):Int)<(n:Int):=by
      have:(left xs).length≠0:=fun e=>hl (hlen.2 e)
      omega
   have hfin:Hid (∀w' nn,nn=((n-(left xs).length:Nat):Int)→Below w.heap.size w w'→J3 xs w (ρ (.tuple #[ς none 0 0,ι γ nn,ι γ 4])) w'):=fun w' nn h1 h2=>Yt (by rw[h1,hN]) hE.symm (by rw[vh,hE];exact World.ownsRow_nil _ _ _ _) h2
   have DX:Hid (Calls prog 134 #[ς A n cap] w fun e w'=>∃v,e=ρ (.tuple #[v,ι γ ((n-(left xs).length:Nat):Int)])∧Ez w' w.heap.size v (ZH xs)∧Below w.heap.size w w'):=XP.out.mono fun e w' ⟨v,h1,h2,h3⟩=>⟨v,by rw[h1,Hn.out],h2,h3⟩
   clear hE hN vh XP Wq hlen Hn hl;generalize n-(left xs).length=z at *;go_enter func113,ntmps113;go_wp2_with (first|(go_at_call 133;refine zA.out.mono ?_;rintro e w' ⟨rfl,rfl⟩)|(go_at_call 134;refine DX.out.mono ?_;rintro e w' ⟨v,rfl,ho,hbl⟩))
   go_ret3
   exact hfin.out _ _ rfl hbl
end Lex
namespace Tree
open Mem
def ZZ(x:ByteArray):Bool:=Lex.vG (Lex.nums x)
def ZN(x:ByteArray)(k:Int):Bool:=decide (Lex.OG (Lex.nums x)=0)&&(match Lex.vB (Lex.nums x)with
 |[]=>false
 |t::_=>t.kind==k&&(strOfNums t.text).toList==x.toList)
theorem Qu7(x:ByteArray)(hx:x.size≤1000000)(w:World):Calls Tryz.prog 81 #[σ x] w fun e w'=>e = ρ (τ (ZZ x))∧Below w.heap.size w w':=by
 have:=Lex.Qsl (Lex.nums x) (Lex.fX x) (by rw[Lex.fY];exact hx) w;rwa[Lex.Ŀ]at this
theorem Ć(x:ByteArray)(k:Int)(hx:x.size≤1000000)(w:World)(hT:Lex.XF w):Calls Tryz.prog 82 #[σ x,ι γ k] w fun e w'=>e = ρ (τ (ZN x k))∧Below w.heap.size w w':=by
 obtain⟨cc,W1,Dt,hc1,hc2,hbW,LA⟩:=Lex.Ĝ w x (by unfold maxLen;omega);have YO:(Lex.nums x).length=x.size:=Lex.fY x;have vR:=Lib.hid (Lex.Qkc _ x.size cc (Lex.nums x) W1 _ LA (Nat.le_refl _) YO hc1 hc2 hx (hT.below hbW hT.pos));have YR:=Lib.hid hbW;have HV:Hid (ZN x k=(decide (Lex.OG (Lex.nums x)=0)&&(match Lex.vB (Lex.nums x)with
  |[]=>false
  |t::_=>t.kind==k&&(strOfNums t.text).toList==x.toList))):=rfl
 unfold Lex.J3 at vR;generalize Lex.pC (Lex.nums x)=N at *;generalize Lex.OG (Lex.nums x)=E at *;generalize Lex.vB (Lex.nums x)=L at *;generalize ZN x k=bb at *;clear YO LA hbW hT;go_enter Tryz.func82,Tryz.ntmps82;go_wp2_with fail;refine vR.out.mono ?_;rintro e w1 ⟨v1,rfl,XD,hb1⟩;obtain⟨a1,c1,rfl,Lg,hl2⟩:=Lex.Xf XD;have DW:=Lib.hid (Lm.Qx7 Lex.Qqm XD rfl);have HB:=VO YR hb1;clear XD hb1 vR Dt;by_cases hE:E=0
 ·subst hE;cases L with
  |nil =>
   have hv:bb=false:=by rw[HV.out];rfl
   subst hv;clear HV DW;exact c23
  |cons t r =>
   obtain⟨b1,rfl,_,hcell⟩:=DW.out.at_ ψ;have d0:w1.cell? ⟨b1,0,none⟩=some (ι γ t.kind):=by have:=hcell 0 t rfl 0 _ rfl;simpa using this
   have d1:w1.cell? ⟨b1,1,none⟩=some (σ (strOfNums t.text)):=by have:=hcell 0 t rfl 1 _ rfl;simpa using this
   have Sz:Hid (bb=(t.kind==k&&(strOfNums t.text).toList==x.toList)):=by show _=_;rw[HV.out];rfl
   generalize t.kind=tk at *;generalize strOfNums t.text=ts at *;have hn:((r.length+1:Nat):Int)>0:=ω
   simp only[List.length_cons]at Lg⊢;generalize r.length+1=m at *;have hn0:(0:Int)<(m:Int):=hn;clear HV DW hcell Lg hl2 hn;cases hk:(tk==k)with
   |false =>
    have hv:bb=false:=by rw[Sz.out,hk];rfl
    subst hv;clear Sz;exact c23
   |true =>
    cases hs:(ts.toList==x.toList)with
    |false =>
     have hv:bb=false:=by rw[Sz.out,hk,hs];rfl
     subst hv;clear Sz;exact c23
    |true =>
     have hv:bb=true:=by rw[Sz.out,hk,hs];rfl
     subst hv;clear Sz;exact c23
 ·have hv:bb=false:=by rw[HV.out,decide_eq_false hE];rfl
  subst hv;have he:(E==0)=false:=QM hE;clear HV DW hE;exact c23
