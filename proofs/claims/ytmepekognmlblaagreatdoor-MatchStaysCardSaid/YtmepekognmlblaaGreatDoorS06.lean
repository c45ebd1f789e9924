import Derived.Test.YtmepekognmlblaaGreatDoorS01
import Derived.IntWalk
import Derived.Deep.RegionHeld3
import Derived.Below
set_option linter.unusedVariables false
open _root_.Nat renaming zero_add→ZL
open _root_.List renaming getElem?_cons_zero→Ib
namespace Go.Proofs.YtmepekognmlblaaGreatDoor
theorem c₁{p:Program}{f:FuncId}{a:Array Value}{w:World}{v:Ending}{R:World→Prop}{Q:Ending→World→Prop}(h:Calls p f a w fun e w'=>e=v∧R w')(k:∀w',R w'→Q v w'):Calls p f a w Q:=h.mono fun _ _ q=>q.1▸k _ q.2
end Go.Proofs.YtmepekognmlblaaGreatDoor
namespace Go.Proofs
theorem c14{p:Prop}(m:p:=by refine(if_pos (by rfl)).mpr ?_;go_simp;exact hK.out _ _ (hI.quiet VF (Below.refl _ _) (.inr rfl) (.inl rfl) δ δ δ δ δ)):p:=m
theorem c16{p:Prop}(m:p:=by go_simp;exact hK.out _ _ (Below.refl _ _) rfl):p:=m
theorem c17{p:Prop}(m:p:=by obtain⟨ZW,hk1,hk3⟩:=QO.out.box w3 (Below.refl _ _);clear hb3 hrest QP QS;go_wp2;go_ret;exact⟨rfl,QO.out.QF⟩):p:=m
theorem c19{p:Prop}(m:p:=by obtain⟨_,_,e3,q3⟩:=Qn (hd 3);clear hd;rw[e3]at hK⊢;clear e3;go_simp;exact hK.out _ _ (Qa _ _) (Ze W q3.out)):p:=m
theorem c20{p:Prop}(m:p:=by refine(if_pos (by rfl)).mpr ?_;go_simp;exact hK.out _ _ (hI.quiet VF (Below.refl _ _) rfl δ δ δ)):p:=m
theorem c110{p:Prop}(m:p:=by refine(if_pos (by rfl)).mpr ?_;exact c16):p:=m
theorem c21{p:Prop}(m:p:=by go_simp;exact hK.out _ _ (fun _ _ _=>⟨Below.refl _ _,trivial⟩) (fun e=>absurd e δ) (fun e=>absurd e δ) (fun e=>absurd e δ) rfl (fun _=>trivial)):p:=m
theorem c23{p:Prop}(m:p:=by go_wp2;go_ret;exact⟨rfl,HB.out⟩):p:=m
theorem c24{p:Prop}(m:p:=by obtain⟨gR,C',e',_,_⟩:=h.all.sliceAt hi ω;rw[e]at e';injection e' with e1 e2 e3;subst e1;subst e3;rw[e]at hi;have hlt:=h.all.lt (List.mem_of_getElem? hi) (k:=gR) rfl;refine .inr ⟨gR,0,rfl,hlt,fun i u hu=>?_⟩;rw[Nat.zero_add];exact h.all.cell hi hu):p:=m
theorem c25{p:Prop}(m:p:=by clear hS;go_simp;exact hK.out _ _ ⟨Below.refl _ _,fun h=>h,Nat.le_refl _⟩ (.inr fun h=>h) rfl):p:=m
theorem c27{p:Prop}(m:p:=by obtain⟨_,_,e3,q3⟩:=Qn (hd 3);obtain⟨_,_,e5,q5⟩:=Qn (hd 5);clear hd;rw[e3,e5]at hK⊢;clear e3 e5;go_simp;exact hK.out _ _ (Qa _ _) (Z6 W q3.out q5.out)):p:=m
theorem c28{p:Prop}(m:p:=by refine(if_pos (by rfl)).mpr ?_;go_simp;exact hK.out _ _ (hI.quiet hS δ (Below.refl _ _) rfl)):p:=m
theorem c29{p:Prop}(m:p:=by have h2:=List.all_eq_true.1 he i (List.mem_range.2 hil);simp only[ho']at h2;have h3:=Array.all_eq_true_iff_forall_mem.1 h2 e hm;simp only[hb.1,Bool.not_true,Bool.false_or,decide_eq_true_eq]at h3;exact⟨by simpa[hjl]using h1,ω⟩):p:=m
theorem c26{p:Prop}(m:p:=by have h:xv 0=_:=hd 0;exact UH):p:=m
theorem c30{p:Prop}(m:p:=by clear hd hp0 hp1 hpre hpost hq0 VN hq1 hr1;refine(if_pos (by rfl)).mpr ?_;go_simp;have hb:=Qa W (.cells #[.int .i64 0,.string ⟨#[]⟩,.string ⟨#[]⟩,.slice none 0 0] 24);obtain⟨z0,z1,z2,z3⟩:=(Vc W 0 ⟨#[]⟩ ⟨#[]⟩ (.slice none 0 0)).cells;exact hK.out _ _ (fun _ _ _=>⟨hb,W.heap.size,rfl,ψ,z0,z1,z2,z3⟩) (fun e=>absurd e δ) (fun e=>absurd e δ) (fun e=>absurd e δ) trivial (fun _=>trivial)):p:=m
theorem c136{p:Prop}(m:p:=by have hx3:xv 3=Value.bool true:=hd 3 χ;have JR:xv 6=Value.pointer (some ⟨b,off,none⟩):=hd 6 χ;clear hd;rw[hx3]at hK⊢;rw[JR]at hK⊢;refine(if_pos (by rfl)).mpr ?_;have hc0:=(hW.cell (p:=⟨b,off,none⟩) hb).trans c0;have hc1:=(hW.cell (p:=⟨b,off+1,none⟩) hb).trans c1;have hc2:=(hW.cell (p:=⟨b,off+2,none⟩) hb).trans c2;have hc3:=(hW.cell (p:=⟨b,off+3,none⟩) hb).trans c3;exact c16):p:=m
theorem c31{p:Prop}(m:p:=by clear hd;go_simp;exact hK.out _ _ (Qa _ _) (Ql W (Za W))):p:=m
theorem c32{p:Prop}(m:p:=by have Pr:=Lib.hid (Xz (Zn VG.out (by omega:w.heap.size≤g9) 1 (.string ⟨#[]⟩)) (JH.out.other (by omega:w.heap.size≠g9) 1 (.string ⟨#[]⟩)) 2 (-1) ⟨#[]⟩);go_wp2;obtain⟨h1,h2⟩:=Pr.out;refine bodyPost_ret (v:=.tuple #[.agg #[.int .i64 2,.string ⟨#[]⟩,.int .i64 (-1)],.bool true]) ?_ rfl ⟨h1,by rw[SE.out];rfl⟩;rw[results_cell_tmp rfl];simp[asAddr,Result.andThen,h2]):p:=m
theorem c33{p:Prop}(m:p:=by go_simp;exact hK.out _ _ (fun _ _=>⟨Below.refl _ _,trivial⟩) (fun e=>absurd e δ) (fun e=>absurd e δ) rfl):p:=m
theorem c34{p:Prop}(m:p:=by go_wp2_with fail;refine(wW.out _ (HQ.out _)).mono ?_;rintro e w9 ⟨rfl,U'⟩;have ER:=Lib.hid ((HQ.out _).trans (U'.mono (HQ.out _).size));clear U';go_wp2;go_ret;exact⟨by rw[HR.out];rfl,ER.out⟩):p:=m
theorem c37{p:Prop}(m:p:=by rw[Fj]at hK⊢;refine(if_pos (by rfl)).mpr ?_;exact K6 rfl rfl rfl hr (hK.out _ _ (hI.app rfl rfl δ δ δ hL hb hf))):p:=m
theorem c38{p:Prop}(m:p:=by rw[Ch]at hK⊢;refine(if_pos (by rfl)).mpr ?_;go_simp;exact hK.out undef _ (hI.store rfl rfl δ δ δ hA Ha.2 (by cases he:L 98 with|false=>exact Ha.1|true=>exact Ha.1))):p:=m
theorem c39{p:Prop}(m:p:=by go_wp2;go_ret;exact⟨by rw[HR.out];rfl,0,rfl⟩):p:=m
theorem c40{p:Prop}(m:p:=by go_simp;exact hK.out _ _ ⟨Below.refl _ _,id⟩ (.inr id) rfl):p:=m
theorem c41{p:Prop}(m:p:=by intro xv W hW hx;have hl:xv 6=_:=hx 6;exact Kb):p:=m
theorem c42{p:Prop}(m:p:=by have d7:(k==7)=false:=beq_eq_false_iff_ne.2 h7;clear h2 h4 h7;go_wp2;obtain⟨h1,h2⟩:=Pr.out;refine bodyPost_ret (v:=.tuple #[.agg #[.int .i64 0,.string ⟨#[]⟩,.int .i64 0],.bool false]) ?_ rfl ⟨h1,by rw[SE.out];rfl⟩;rw[results_cell_tmp rfl];simp[asAddr,Result.andThen,h2]):p:=m
theorem c43{p:Prop}(m:p:=by have h7:L 7=false:=(Qh (r:=7) hcl hL χ);obtain⟨g,e5,Mk⟩:=hI.e4 (hd 4 χ) h7;clear hd;rw[e5]at hK⊢;refine(if_pos (by rfl)).mpr ?_;have hc:=Qbz g 2 _ W' ω Mk;go_simp;go_at_call 23;refine hc.mono ?_;rintro e W3 ⟨hb,v,rfl,hn⟩;exact hK.out _ _ ((hI.later hb).BX h7 hn)):p:=m
theorem c44{p:Prop}(m:p:=by have h1:xv 1=_:=hd 1;have h:=hd 4;exact Ka):p:=m
theorem c45{p:Prop}(m:p:=by go_wp2;go_ret;exact⟨by rw[HR.out];rfl,HQ.out _⟩):p:=m
theorem c46{p:Prop}(m:p:=by have hput:=EA.jB;have hbc:=EA.box.cell;have LZ:=EA.box.JO;simp only[Bool.false_eq_true,if_false]at hbc;rw[e4]at hput hK⊢;go_simp;exact hK.out undef _ (fun _ _ e=>absurd rfl e) (fun e=>absurd e δ) (fun e=>absurd e δ) (fun _=>hput) trivial (fun _=>trivial)):p:=m
theorem c47{p:Prop}(m:p:=by obtain⟨h1,h2,h3,h4,h5,h6⟩:=Vt.1 hpk;simp only[SB.out,BG.out]at h1 h2 h3 h4 h5 h6;omega):p:=m
theorem c148{p:Prop}(m:p:=by go_wp2;go_ret;exact⟨by rw[HE.out];rfl,HB.out⟩):p:=m
theorem c48{p:Prop}(m:p:=by clear hd;go_simp;exact hK.out _ _ (Qa _ _) (Ql W (Z5 W))):p:=m
theorem c49{p:Prop}(m:p:=by clear hlt HK PY;go_wp2;obtain⟨h1,h2⟩:=Pr.out;refine bodyPost_ret (v:=.tuple #[.agg #[.int .i64 7,.string x,.int .i64 rv],.bool true]) ?_ rfl ⟨h1,by rw[SE.out];rfl⟩;rw[results_cell_tmp rfl];simp[asAddr,Result.andThen,h2]):p:=m
theorem c50{p:Prop}(m:p:=by rintro e w' ⟨hb,v,rfl,ht⟩;exact hK.out _ _ hb ht):p:=m
theorem c52{p:Prop}(m:p:=by obtain⟨v',W',hr,hf,hb,_⟩:=hF.VT (i:=t+5) (OH Ik.out zh.out) _ Tryz.underlying32 hi0 hz0 hz1 hz2 rfl δ δ rfl hcb (by intro u hu;rw[List.mem_singleton.1 hu];rfl) (by have:=NW.out;omega);rw[JE]at hK⊢;exact c37):p:=m
theorem c53{p:Prop}(m:p:=by have h7:L 7=false:=(Qh (r:=7) hcl (Qh (r:=5) hcl (Qh (r:=4) hcl (Qh (r:=1) hcl hL χ) χ) χ) χ);clear hd;refine(if_pos (by rfl)).mpr ?_;obtain⟨p0,p1,p2,p3⟩:=Po.out W' hI.QF;go_simp;exact hK.out _ _ (hI.Fa h7)):p:=m
theorem c54{p:Prop}(m:p:=by clear b1 hT hx;go_enter Tryz.func60,Tryz.ntmps60;go_wp2_with fail;refine HC.out.mono ?_;rintro e w' ⟨rfl,rfl⟩;exact c23):p:=m
theorem c55{p:Prop}(m:p:=by rw[hW.cell (p:=⟨w.heap.size,0,none⟩) ψ,World.cell?_alloc_at _ _ _ _ rfl];rfl):p:=m
theorem c56{p:Prop}(m:p:=by simp only[List.getElem?_cons_zero,Option.some.injEq]at h;subst h;exact hs.1):p:=m
theorem c57{p:Prop}(m:p:=by rw[e1,show k+(m+1)=k+1+m by omega];exact Fg (k+1) m _ (by simpa using h)):p:=m
theorem c137{p:Prop}(m:p:=by obtain⟨_,_,e4,q4⟩:=Qn (hd 4 χ);obtain⟨_,_,e7,q7⟩:=Qn (hd 7 χ);clear hd;refine(if_pos (by rfl)).mpr ?_;rw[e4,e7]at hK⊢;clear e4 e7;go_simp;exact hK.out _ _ (Qa _ _) (Z6 W q4.out q7.out)):p:=m
theorem c58{p:Prop}(m:p:=by go_wp2;go_ret;exact⟨by rw[HF.out];rfl,_,by rw[World.drewN_drewN]⟩):p:=m
theorem c59{p:Prop}(m:p:=by have hx0:=hI.kc 0 _ rfl (hd 0 χ);clear hd;rw[hx0]at hK⊢;exact c14):p:=m
theorem c60{p:Prop}(m:p:=by have hx1:=hI.kc 1 _ rfl (hd 1 χ);clear hd;rw[hx1]at hK⊢;exact c14):p:=m
theorem c61{p:Prop}(m:p:=by exact⟨i,j+1,M',by have:=HI.out;omega,by have:=HJ.out;omega,by go_num,by go_num,JL.out.drewN _,DR.out.trans (QB.drewN _ _),by rw[Tt.out,show p+q-(i+(j+1))=p+q-(i+j)-1 by omega]⟩):p:=m
theorem c63{p:Prop}(m:p:=by exact⟨i+1,j,M',by have:=HI.out;omega,by have:=HJ.out;omega,by go_num,by go_num,JL.out.drewN _,DR.out.trans (QB.drewN _ _),by rw[Tt.out,show p+q-(i+1+j)=p+q-(i+j)-1 by omega]⟩):p:=m
theorem c64{p:Prop}(m:p:=by exact Nat.le_trans (List.length_filter_le _ _) (by rw[List.length_range];exact Nat.le_refl _)):p:=m
theorem c138{p:Prop}(m:p:=by have hx2:xv 2=Value.func (.func g3) #[] c3:=hd 2 χ;clear hd;rw[hx2]at hK⊢;refine(if_pos (by rfl)).mpr ?_;go_simp;exact hK.out _ _ (Qa _ _) (Vq W (Z5 W) (T3.out.later hW))):p:=m
theorem c139{p:Prop}(m:p:=by have JB:xv 5=Value.func (.func g3) #[] c3:=hd 5 χ;clear hd;rw[JB]at hK⊢;refine(if_pos (by rfl)).mpr ?_;go_simp;exact hK.out _ _ (Qa _ _) (Vq W (Za W) (T3.out.later hW))):p:=m
theorem c65{p:Prop}(m:p:=by refine(if_pos (by rfl)).mpr ?_;obtain⟨k0,k1,k2,k3⟩:=KQ.out W (hS (.inl χ));exact c40):p:=m
theorem c66{p:Prop}(m:p:=by have h7:L 7=false:=(Qh (r:=7) hcl hL χ);clear hd;refine(if_pos (by rfl)).mpr ?_;go_simp;exact hK.out _ _ ((hI.later (Qz W' _)).BW h7 hI.QF.size (heap_alloc_new W' _))):p:=m
theorem c140{p:Prop}(m:p:=by have hx3:xv 3=Value.bool true:=hd 3 χ;clear hd;rw[hx3]at hK⊢;refine(if_pos (by rfl)).mpr ?_;have hcell:=HC.out W (HB.out.trans (hW.mono HB.out.size));exact c16):p:=m
theorem c67{p:Prop}(m:p:=by have h:xv 5=_:=hd 5;exact Km):p:=m
theorem c68{p:Prop}(m:p:=by intro a b;obtain⟨g,c,e,hc⟩:=h.fb a b;exact⟨g,c,e,fun j u hj=>(hb.cell (p:=⟨g,j,none⟩) (World.block_lt_of_cell? W _ (hc j u hj))).trans (hc j u hj)⟩):p:=m
theorem c69{p:Prop}(m:p:=by intro v' w' r1 r2 r3;exact hK.out _ _ (fun e=>absurd rfl e) (fun _=>Hf.start Rq JD r1 r2 r3) (fun e=>absurd e δ) (fun e=>absurd e δ) trivial (fun _=>trivial)):p:=m
theorem c70{p:Prop}(m:p:=by intro xv W hW hx;have hl:xv 8=_:=hx 8;exact Kb):p:=m
theorem c71{p:Prop}(m:p:=by exact⟨q+1,j,⟨by have:=HQ.out.1;omega,HQ.out.2,PL⟩,by go_num,rfl,HN.out _⟩):p:=m
theorem c141{p:Prop}(m:p:=by have hx3:xv 3=Value.bool true:=hd 3 χ;have JB:xv 5=Value.slice (some ⟨b,off,none⟩) n C:=hd 5 χ;clear hd;rw[hx3]at hK⊢;rw[JB]at hK⊢;exact c110):p:=m
theorem c168{p:Prop}(m:p:=by clear hb;go_wp2;go_ret;exact⟨rfl,HE.out⟩):p:=m
theorem c73{p:Prop}(m:p:=by injection e' with e1 e2 e3;injection e1 with e1;injection e1 with e4 e5;subst e4;subst e5;exact(Y'.cell (World.block_lt_of_cell? _ _ h1)).trans h1):p:=m
theorem c74{p:Prop}(m:p:=by clear Y' xF;go_simp;exact hK.out undef _ (fun _ e=>absurd rfl e) (fun e=>absurd e δ) (fun _=>hput) (fun e=>absurd e δ) trivial (fun _=>trivial)):p:=m
theorem c76{p:Prop}(m:p:=by have h1:xv 1=_:=hd 1;have h:=hd 6;exact Ka):p:=m
theorem c77{p:Prop}(m:p:=by subst XT;unfold waits at hw;rw[ho']at hw;exact(JN j (by simpa using hw)).1):p:=m
theorem c78{p:Prop}(m:p:=by simp[Instr.entryStore,MapKept.run_getObj_map hw2,asInt,asIntOf,goInt,hi,hm,MapKept.run_setObj_map _ hw2,Result.andThen,ChangeMaps.setBlock]):p:=m
theorem c79{p:Prop}(m:p:=by exact⟨i,q,⟨hi1,HQ.out.1,by have:=HQ.out.2;omega⟩,rfl,rfl,HN.out _⟩):p:=m
theorem c80{p:Prop}(m:p:=by go_simp;go_at_call 37;refine hcl.mono ?_;rintro e W' ⟨hb,v,rfl,hpl⟩;exact hK.out _ _ hb (hpl.more fun b hb'=>⟨Nat.le_trans (Nat.le_trans HB.out.size hW.size) hb'.1,hb'.2⟩)):p:=m
theorem c81{p:Prop}(m:p:=by refine(if_pos (by rfl)).mpr ?_;exact c25):p:=m
theorem c82{p:Prop}(m:p:=by refine(if_pos (by rfl)).mpr ?_;exact c40):p:=m
theorem c83{p:Prop}(m:p:=by go_simp;exact hK.out _ _ (hI.build VF UJ rfl rfl δ δ δ δ rfl (hcn))):p:=m
theorem c84{p:Prop}(m:p:=by rw[List.eq_replicate_iff];refine⟨ψ,fun b hb=>?_⟩;obtain⟨t,ht,rfl⟩:=List.mem_map.1 hb;rw[List.mem_range]at ht;rw[if_neg ω]):p:=m
theorem c85{p:Prop}(m:p:=by go_wp2;go_ret;exact⟨by rw[HV.out];rfl,TY.out⟩):p:=m
theorem c88{p:Prop}(m:p:=by go_wp2;go_ret;exact⟨by rw[HR.out];rfl,_,World.drewN_drewN _ _ _⟩):p:=m
theorem c89{p:Prop}(m:p:=by injection e with e;injection e with e1 e2;subst e1;subst e2;exact hc):p:=m
theorem c128{p:Prop}(m:p:=by rintro e w' ⟨rfl,hb⟩;exact hK.out _ _ hb rfl):p:=m
theorem c91{p:Prop}(m:p:=by simpa using K5 l.length l.length (Nat.le_refl _)):p:=m
theorem c167{p:Prop}(m:p:=by clear hlt;go_wp2;go_ret;exact ı HB.out (by rw[←Ý HN.out];exact HK.out) (by rw[←Jf,HN.out];exact Zz (by rw[HN.out];exact Nat.le_refl _)) RL):p:=m
theorem c92{p:Prop}(m:p:=by injection e' with e2;rw[←e2]at e1;injection e1 with e1;injection e1 with e4 e5;subst e4;exact⟨q4.1,Nat.lt_trans q4.2 l5⟩):p:=m
theorem c93{p:Prop}(m:p:=by have JR:=hI.kc 6 _ rfl (hd 6 χ);clear hd;rw[JR]at hK⊢;exact c14):p:=m
theorem c96{p:Prop}(m:p:=by injection Lj with e;injection e with e1 e2 e3;injection e1 with e1;injection e1 with e4 e5;subst e4;subst e5;exact h1):p:=m
theorem c97{p:Prop}(m:p:=by have hx3:=hI.kc 3 _ rfl (hd 3 χ);have JJ:=hI.kc 4 _ rfl (hd 4 χ);clear hd;rw[hx3]at hK⊢;rw[JJ]at hK⊢;exact c14):p:=m
theorem c98{p:Prop}(m:p:=by have UX:=hI.kc 8 _ rfl (hd 8 χ);have Lx:=hI.kc 9 _ rfl (hd 9 χ);clear hd;rw[UX]at hK⊢;rw[Lx]at hK⊢;exact c14):p:=m
theorem c99{p:Prop}(m:p:=by obtain⟨_,_,e3,q3⟩:=J4 (hd 3);clear hd;rw[e3]at hK⊢;clear e3;go_simp;exact hK.out _ _ (Qa _ _) (Ql W q3.out)):p:=m
theorem c100{p:Prop}(m:p:=by obtain⟨_,_,e4,q4⟩:=Qn (hd 4);clear hd;rw[e4]at hK⊢;clear e4;go_simp;exact hK.out _ _ (Qa _ _) (Ze W q4.out)):p:=m
theorem c101{p:Prop}(m:p:=by obtain⟨_,_,e6,q6⟩:=J4 (hd 6);clear hd;rw[e6]at hK⊢;clear e6;go_simp;exact hK.out _ _ (Qa _ _) (Ql W q6.out)):p:=m
theorem c102{p:Prop}(m:p:=by obtain⟨_,_,e2,q2⟩:=Qn (hd 2);clear hd;rw[e2]at hK⊢;clear e2;go_simp;exact hK.out _ _ (Qa _ _) (Ze W q2.out)):p:=m
theorem c103{p:Prop}(m:p:=by rw[List.eq_nil_of_length_eq_zero h0];exact⟨none,0,rfl,ω⟩):p:=m
theorem c104{p:Prop}(m:p:=by rw[List.length_eq_zero_iff]at h0;rw[h0];rfl):p:=m
theorem c105{p:Prop}(m:p:=by rw[he,hs]at h;exact h.sliceAt (i:=1) rfl ω):p:=m
theorem c106{p:Prop}(m:p:=by go_simp;go_at_call 24;refine hc.mono ?_;rintro e W3 ⟨hb,v,rfl,hn⟩;exact hK.out _ _ ((hI.later hb).EW h7 hn)):p:=m
theorem c107{p:Prop}(m:p:=by go_simp;go_at_call 24;refine hc.mono ?_;rintro e W3 ⟨hb,v,rfl,hn⟩;exact hK.out _ _ ((hI.later hb).BZ h7 hn)):p:=m
theorem c108{p:Prop}(m:p:=by obtain⟨vN,vP,vS,vK,e,h1,h2,h3,h4⟩:=h;exact⟨vN,vP,vS,vK,e,h1.more hs,h2.more hs,h3.more hs,h4.more hs⟩):p:=m
theorem c109{p:Prop}(m:p:=by rw[List.getElem?_eq_none h']at hw;cases hw):p:=m
theorem c156{p:Prop}(m:p:=by clear hal;go_enter Tryz.func20,Tryz.ntmps20;exact c148):p:=m
theorem c111{p:Prop}(m:p:=by have HB:=Lib.hid b1;clear b1 hT hx;go_enter Tryz.func60,Tryz.ntmps60;exact c23):p:=m
theorem c112{p:Prop}(m:p:=by refine(if_pos (by rfl)).mpr ?_;have JD:=hS (.inl χ);obtain⟨hq0,hq1,hq2,Ns⟩:=QY.out W JD;exact c25):p:=m
theorem c113{p:Prop}(m:p:=by obtain⟨z0,⟨z1,z2,z3,z4⟩,z5,z6,z7,z8,z9⟩:=Sk.out W hW;exact⟨z0,z1,z2,z3,z4,z5,z6,z7,z8,z9⟩):p:=m
theorem c142{p:Prop}(m:p:=by refine(if_pos (by rfl)).mpr ?_;exact Vu):p:=m
theorem c114{p:Prop}(m:p:=by clear hd;go_simp;exact hK.out _ _ (Qa _ _) (Vb [17] W)):p:=m
theorem c115{p:Prop}(m:p:=by go_wp2;go_ret;exact⟨by rw[HE.out];rfl,pP Z'.out _⟩):p:=m
theorem c116{p:Prop}(m:p:=by injection e with e;injection e with e1 e2;subst e1;subst e2;rw[if_pos (Nat.zero_le _)]at xI;exact same _ _ _ xI hb'.1):p:=m
theorem c117{p:Prop}(m:p:=by exact⟨by rw[Tx.out],HR.out.drewN _⟩):p:=m
theorem c118{p:Prop}(m:p:=by clear hd hp0 hp1 hpre hpost hq0 VN hq1 hr1;rw[hx0]at hK⊢;refine(if_pos (by rfl)).mpr ?_;exact c21):p:=m
theorem c143{p:Prop}(m:p:=by have hx0:xv 0=Value.slice (some ⟨b,off,none⟩) n C:=hd 0 χ;clear hd;rw[hx0]at hK⊢;exact c110):p:=m
theorem c119{p:Prop}(m:p:=by exact⟨C,by rw[World.cell?_of_block (w:=wr) (hb g (by have:=hS g k.ms.ro.own;omega))];exact hc⟩):p:=m
theorem c120{p:Prop}(m:p:=by go_wp2;go_ret;exact⟨by rw[HE.out];rfl,HM.out.QF⟩):p:=m
theorem c121{p:Prop}(m:p:=by rw[getD_set_ne true XT]at hl;exact hws q kK hl j hw):p:=m
theorem c122{p:Prop}(m:p:=by rw[MO j VK];rw[getD_set_ne true (Ne.symm VK)]at hl';exact(YA E j).mono _ _ _ hU (g2 j hj hl')):p:=m
theorem c123{p:Prop}(m:p:=by clear hd;obtain⟨⟨q0,q1,q2,q3⟩,z0,z1,z2,z3⟩:=Zr hF (j:=0) rfl;rw[YX]at hK⊢;exact c14):p:=m
theorem c124{p:Prop}(m:p:=by rw[List.filter_cons,List.filter_nil]):p:=m
theorem c125{p:Prop}(m:p:=by rw[show upd v (2*m+0) v' (2*m)=v' from Zo v (2*m) v',V1 v v' (by omega:2*m+1≠2*m+0)];rfl):p:=m
theorem c144{p:Prop}(m:p:=by refine(if_pos (by rfl)).mpr ?_;go_simp;exact hK.out _ _ (Qa _ _) (Ql W (T3.out.later hW))):p:=m
theorem c126{p:Prop}(m:p:=by go_wp2;go_ret;exact⟨⟨_,rfl,HE.out ▸ HM.out.own.base (Nat.le_succ _)⟩,HM.out.QF⟩):p:=m
theorem c127{p:Prop}(m:p:=by exact⟨by rw[hb2],rfl⟩):p:=m
theorem c129{p:Prop}(m:p:=by rw[←hc,HN.out,List.set_append_right _ _ ω,hpl,List.set_append_right _ _ ω,hpl];rfl):p:=m
theorem c130{p:Prop}(m:p:=by have h:xv 7=_:=hd 7;exact Km):p:=m
theorem c132{p:Prop}(m:p:=by rw[if_pos hw]at hst;exact .inl hst):p:=m
theorem c133{p:Prop}(m:p:=by rw[List.set_cons_zero];exact List.Sublist.cons_cons _ (List.sublist_append_left _ _)):p:=m
theorem c134{p:Prop}(m:p:=by intro xv W hW hx;have hl:xv 7=_:=hx 7;exact Kb):p:=m
theorem c145{p:Prop}(m:p:=by have hx1:xv 1=Value.int .i64 (n:Int):=hd 1 χ;clear hd;rw[hx1]at hK⊢;exact c110):p:=m
theorem c135{p:Prop}(m:p:=by exact⟨i+1,ω,by go_num,HG,Rv⟩):p:=m
theorem c159{p:Prop}(m:p:=by have h1:xv 1=_:=hd 1 χ;have h:=hd 8 χ;refine(if_pos (by rfl)).mpr ?_;exact Ka):p:=m
theorem c160{p:Prop}(m:p:=by simp only[F.size];omega):p:=m
theorem c169{p:Prop}(m:p:=by obtain rfl:=E2 (show ptrTo g=ptrTo g' from b);exact fun hs=>absurd (h2 _ hs) ω):p:=m
theorem c161{p:Prop}(m:p:=by intro xv W hW hx a ha;replace hW:=vH hW;simp only[Qi]at ha;simp only[List.setIfInBounds_toArray,List.set_cons_succ,List.set_cons_zero,Nat.zero_add,Nat.reduceAdd]at ha;subst ha;have hl:xv 23=_:=hx 23 δ;exact Kb):p:=m
theorem c162{p:Prop}(m:p:=by refine(HQ.out W hW).mono ?_;rintro e w' ⟨rfl,ZT⟩;exact hK.out _ _ ZT rfl):p:=m
theorem c163{p:Prop}(m:p:=by have h1:xv 1=_:=hd 1;have h:=hd 5;exact Ka):p:=m
theorem c164{p:Prop}(m:p:=by clear hd;go_simp;go_at_call 87;refine(Y6 Qf _ _ W (Za W)).mono ?_;exact c50):p:=m
theorem c165{p:Prop}(m:p:=by subst VK;simp[show j<listed.size by omega]):p:=m
theorem c166{p:Prop}(m:p:=by exact(Zr hF (j:=0) rfl).1.2.2.2):p:=m
theorem c146{p:Prop}(m:p:=by go_wp2;go_ret;exact⟨by rw[HV.out];rfl,pO TY.out _⟩):p:=m
theorem c170{p:Prop}(m:p:=by go_wp2_with fail;refine HC.out.mono ?_;rintro e w' ⟨rfl,hb⟩;have HE:=VO HB hb;exact c168):p:=m
end Go.Proofs
namespace Go.Proofs.YtmepekognmlblaaGreatDoor
namespace Mem
structure Cd(T:World→World→Prop) where
 p:Value→World→Prop
 mono:∀v W W',T W W'→p v W→p v W'
def Cd.any{T:World→World→Prop}:Cd T:=⟨fun _ _=>True,fun _ _ _ _ _=>trivial⟩
def Cd.is{T:World→World→Prop}(u:Value):Cd T:=⟨fun v _=>v=u,fun _ _ _ _ h=>h⟩
def YA{T:World→World→Prop}(Φ:List (Cd T))(i:Nat):Cd T:=Φ.getD i Cd.any
def Qi(x:Nat→Value):Nat→List Oper→Array Value→Array Value
 |_,[],t=>t
 |i,o::os,t=>Qi x (i+1) os (match o.dst with|some d=>t.setIfInBounds d (x i)|none=>t)
def Qq(x:Nat→Value)(i:Nat)(v:Value):Nat→Value:=fun j=>if j=i then v else x j
def Xs(l:List Oper):List Nat:=l.filterMap fun o=>o.dst
theorem Vv{x x':Nat→Value}:∀(l:List Oper)(i:Nat)(t:Array Value),(∀j,i≤j→x j=x' j)→Qi x i l t=Qi x' i l t
 |[],_,_,_=>rfl
 |o::os,i,t,h=>by
  simp only[Qi];rw[h i (Nat.le_refl _)];exact Vv os (i+1) _ fun j hj=>h j ω
theorem iT{x:Nat→Value}{d:Nat}{v:Value}:∀(l:List Oper)(i:Nat)(t:Array Value),d ∉ Xs l→Qi x i l (t.setIfInBounds d v)=(Qi x i l t).setIfInBounds d v
 |[],_,_,_=>rfl
 |o::os,i,t,h=>by
  have h2:d ∉ Xs os:=fun hm=>h (by simp only[Xs,List.filterMap_cons]at hm⊢;split <;> simp_all)
  simp only[Qi];cases hd:o.dst with
  |none=>exact iT os (i+1) t h2
  |some e =>
   have hne:e≠d:=fun he=>h (by simp only[Xs,List.filterMap_cons,hd,he];exact List.mem_cons_self ..)
   simp only;rw[←iT os (i+1) (t.setIfInBounds e (x i)) h2,Array.setIfInBounds_comm _ _ hne]
theorem K8{x:Nat→Value}{d:Nat}{v:Value}:∀(l:List Oper)(i j:Nat)(o:Oper)(t:Array Value),(Xs l).Nodup→l[j]?=some o→o.dst=some d→Qi (Qq x (i+j) v) i l t=(Qi x i l t).setIfInBounds d v
 |[],_,_,_,_,_,h,_=>by simp at h
 |p::os,i,0,o,t,hn,h,hd=>by
  simp only[Ib,Option.some.injEq]at h;subst h;have hn':d ∉ Xs os∧(Xs os).Nodup:=by simp only[Xs,List.filterMap_cons,hd]at hn;exact List.nodup_cons.1 hn
  simp only[Qi,hd,Nat.add_zero];rw[Vv (x':=x) os (i+1) _ (fun k hk=>by simp only[Qq];rw[if_neg ω])];rw[←iT os (i+1) _ hn'.1];simp[Qq]
 |p::os,i,j+1,o,t,hn,h,hd=>by
  have hn':(Xs os).Nodup:=by
   simp only[Xs,List.filterMap_cons]at hn;split at hn
   ·exact hn
   ·exact(List.nodup_cons.1 hn).2
  simp only[Qi];have e1:Qq x (i+(j+1)) v i=x i:=by simp only[Qq];rw[if_neg ω]
  rw[e1,show i+(j+1)=i+1+j by omega];exact K8 os (i+1) j o _ hn' (by simpa using h) hd
theorem Gg{t:Array Value}{d:Nat}:t.setIfInBounds d (t.getD d undef)=t:=by
 apply Array.ext_getElem?;intro k;rw[Array.getElem?_setIfInBounds];by_cases h:d=k
 ·subst h;by_cases hk:d<t.size
  ·simp[hk]
  ·simp[hk]
 ·simp[h]
def Eu(l:List Oper)(t:Array Value):Nat→Value:=fun j=>((l[j]?).bind (·.dst)).elim undef (fun d=>t.getD d undef)
theorem ż(t:Array Value):∀(l:List Oper)(i:Nat)(x:Nat→Value),(∀j o d,l[j]?=some o→o.dst=some d→x (i+j)=t.getD d undef)→Qi x i l t=t
 |[],_,_,_=>rfl
 |o::os,i,x,h=>by
  simp only[Qi]
  have e:(match o.dst with|some d=>t.setIfInBounds d (x i)|none=>t)=t:=by
   cases hd:o.dst with
   |none=>rfl
   |some d=>have:=h 0 o d rfl hd;rw[Nat.add_zero]at this;simp only[this];exact Gg
  rw[e]
  exact ż t os (i+1) x fun j o' d hj hd=>by
   rw[show i+1+j=i+(j+1)by omega];exact h (j+1) o' d (by simpa using hj) hd
theorem Ke(l:List Oper)(t:Array Value):Qi (Eu l t) 0 l t=t :=
 ż t l 0 _ fun j o d hj hd=>by simp[Eu,hj,hd]
def Su(listed:Array Bool):Nat→Nat
 |0=>0
 |n+1=>Su listed n+if listed.getD n true=false then 1 else 0
theorem Gc{listed:Array Bool}:∀{n:Nat},Su listed n=0→∀i,i<n→listed.getD i true=true
 |0,_,i,h=>ω
 |n+1,h,i,hi=>by
  simp only[Su]at h;by_cases hl:listed.getD n true=false
  ·rw[if_pos hl]at h;omega
  ·by_cases hin:i=n
   ·subst hin;simpa using hl
   ·exact Gc (n:=n) ω i ω
theorem Qbl{listed:Array Bool}{i:Nat}:∀{n:Nat},n≤i→Su (listed.setIfInBounds i true) n=Su listed n
 |0,_=>rfl
 |n+1,h=>by
  simp only[Su];rw[Qbl (n:=n) ω,getD_set_ne true (show i≠n by omega)]
theorem Ui{listed:Array Bool}{i:Nat}(hu:listed.getD i true=false):∀{n:Nat},i<n→Su (listed.setIfInBounds i true) n+1=Su listed n
 |0,h=>ω
 |n+1,h=>by
  simp only[Su];by_cases hin:i=n
  ·subst hin;rw[Qbl (Nat.le_refl _),if_pos hu];have hs:i<listed.size:=by
    rcases Nat.lt_or_ge i listed.size with h' |h'
    ·exact h'
    ·simp[Array.getElem?_eq_none h']at hu
   simp[hs]
  ·rw[getD_set_ne true hin];have:=Ui hu (n:=n) ω;omega
variable {P:Program}{Q:Exit→Act→World→Prop}
def Jb(P:Program)(l:List Oper)(Q:Exit→Act→World→Prop)(o:Oper)(K:Act→World→Prop)(a:Act)(w:World):Prop :=
 if Region.wanted o (yielded l.toArray a.tmps)=true then o.wp P a w K Q else K (a.put o.dst undef) w
def Z2(l:List Oper):Bool:=(List.range l.length).all fun i=>match l[i]? with
 |some o=>o.after.all fun e=>!Region.binds .any e||decide (e.on<i)
 |none=>true
def Steps(P:Program)(l:List Oper)(Q:Exit→Act→World→Prop){T:World→World→Prop}(Φ:List (Cd T))(x:Nat→Value)(a:Act)(W:World):Nat→List Oper→Prop
 |_,[]=>True
 |i,o::os=>((∀j,(o.after.any fun e=>Region.binds .any e&&e.on==j)=true→(YA Φ j).p (x j) W)→∀K:Act→World→Prop,Shut (∀v W',T W W'→(YA Φ i).p v W'→K (a.put o.dst v) W')→Jb P l Q o K a W)∧Steps P l Q Φ x a W (i+1) os
theorem Steps.get{l:List Oper}{T:World→World→Prop}{Φ:List (Cd T)}{x:Nat→Value}{a:Act}{W:World}:∀(os:List Oper)(k i:Nat)(o:Oper),Steps P l Q Φ x a W k os→os[i]?=some o→
 ((∀j,(o.after.any fun e=>Region.binds .any e&&e.on==j)=true→(YA Φ j).p (x j) W)→∀K:Act→World→Prop,Shut (∀v W',T W W'→(YA Φ (k+i)).p v W'→K (a.put o.dst v) W')→Jb P l Q o K a W)
 |[],_,_,_,_,h=>by simp at h
 |p::os,k,0,o,hs,h=>by
  simp only[Ib,Option.some.injEq]at h;subst h;exact hs.1
 |p::os,k,i+1,o,hs,h=>by
  have:=Steps.get os (k+1) i o hs.2 (by simpa using h);rwa[show k+1+i=k+(i+1)by omega]at this
theorem Qut{l:List Oper}{T:World→World→Prop}{Φ:List (Cd T)}{a0:Act}{w1:World}(hn:(Xs l).Nodup)(he:Z2 l=true)(htr:∀W1 W2 W3,T W1 W2→T W2 W3→T W1 W3)
 (hsteps:∀x W,T w1 W→∀a,a=(⟨Qi x 0 l a0.tmps,a0.defers⟩:Act)→Steps P l Q Φ x a W 0 l)
 (hdone:∀x W,T w1 W→(∀i,i<l.length→(YA Φ i).p (x i) W)→∀a,a=(⟨Qi x 0 l a0.tmps,a0.defers⟩:Act)→Q .normal a W) :
 ∀(fuel:Nat)(listed:Array Bool)(x:Nat→Value)(a:Act)(W:World),Su listed l.length=fuel→a=⟨Qi x 0 l a0.tmps,a0.defers⟩→T w1 W→(∀i,i<l.length→listed.getD i true=true→(YA Φ i).p (x i) W)→
  wpAny P .any l.toArray Q fuel listed a W:=by
 have all:∀listed:Array Bool,Region.ready .any l.toArray listed=[]→∀i,i<l.length→listed.getD i true=true:=by
  intro listed hr i
  induction i using Nat.strongRecOn with
  |_ i ih =>
   intro hi;by_cases hl:listed.getD i true=true
   ·exact hl
   ·exfalso
    have hm:i∈Region.ready .any l.toArray listed:=mem_ready.2 ⟨by simpa using hl,l[i],by simp[hi],fun e hm hb=>by
     have h1:=List.all_eq_true.1 he i (List.mem_range.2 hi);simp only[List.getElem?_eq_getElem hi]at h1;have h2:=Array.all_eq_true_iff_forall_mem.1 h1 e hm;simp only[hb,Bool.not_true,Bool.false_or,decide_eq_true_eq]at h2;have h3:=ih e.on h2 ω;rcases Nat.lt_or_ge e.on listed.size with h' |h'
     ·simpa[h']using h3
     ·exfalso;have h4:listed.getD i true=true:=by simp[Array.getElem?_eq_none (show listed.size≤i by omega)]
      exact hl h4⟩
    rw[hr]at hm;cases hm
 intro fuel
 induction fuel with
 |zero =>
  intro listed x a W hf ha hT hx;have hall:=Gc hf;refine⟨?_,hdone x W hT (fun i hi=>hx i hi (hall i hi)) a ha⟩;cases hr:Region.ready .any l.toArray listed with
  |nil=>rfl
  |cons i rs =>
   exfalso;obtain⟨h0,o,ho,_⟩:=mem_ready.1 (show i∈Region.ready .any l.toArray listed by rw[hr];exact List.mem_cons_self ..);have hi:i<l.length:=by have:=(Array.getElem?_eq_some_iff.1 ho).1;simpa using this
   rw[hall i hi]at h0;cases h0
 |succ fuel ih =>
  intro listed x a W hf ha hT hx;refine⟨fun hr=>hdone x W hT (fun i hi=>hx i hi (all listed hr i hi)) a ha,fun i hi=>?_⟩;obtain⟨h0,o,ho,PM⟩:=mem_ready.1 hi;have ho':l[i]?=some o:=by simpa using ho
  have hil:i<l.length:=(List.getElem?_eq_some_iff.1 ho').1
  have hst:=Steps.get l 0 i o (hsteps x W hT a ha) ho' (fun j hj=>by
   rw[←Array.any_toList,List.any_eq_true]at hj;obtain⟨e,hm0,hb⟩:=hj;have hm:e∈o.after:=Array.mem_toList_iff.1 hm0;simp only[Bool.and_eq_true,beq_iff_eq]at hb;have h1:=PM e hm hb.1;rw[hb.2]at h1;have hjl:j<listed.size:=by
    rcases Nat.lt_or_ge j listed.size with h' |h'
    ·exact h'
    ·simp[Array.getElem?_eq_none h']at h1
   have h2:=List.all_eq_true.1 he i (List.mem_range.2 hil);simp only[ho']at h2;have h3:=Array.all_eq_true_iff_forall_mem.1 h2 e hm;simp only[hb.1,Bool.not_true,Bool.false_or,decide_eq_true_eq]at h3;exact hx j ω (by simpa[hjl]using h1))
   (fun a' W'=>wpAny P .any l.toArray Q fuel (listed.setIfInBounds i true) a' W')
   (by
    intro v W' gi hv;rw[ZL]at hv;refine ih (listed.setIfInBounds i true) (Qq x i v) _ W' (by have:=Ui h0 hil;omega) ?_ (htr _ _ _ hT gi) (fun j hj hl=>?_)
    ·rw[ha];cases hd:o.dst with
     |none =>
      simp only[Act.put]
      congr 1
      have key:∀(os:List Oper)(k m:Nat)(t:Array Value),os[m]?=some o→Qi (Qq x (k+m) v) k os t=Qi x k os t:=by
       intro os
       induction os with
       |nil=>intro k m t h;rfl
       |cons p os Fg =>
        intro k m t h;cases m with
        |zero=>simp only[Ib,Option.some.injEq]at h;subst h;simp only[Qi,hd];exact Vv os (k+1) _ fun j hj=>by simp only[Qq];rw[if_neg ω]
        |succ m =>
         simp only[Qi];have e1:Qq x (k+(m+1)) v k=x k:=by simp only[Qq];rw[if_neg ω]
         rw[e1,show k+(m+1)=k+1+m by omega];exact Fg (k+1) m _ (by simpa using h)
      have:=key l 0 i a0.tmps ho';rw[ZL]at this;exact this.symm
     |some d =>
      simp only[Act.put]
      congr 1
      have:=K8 (x:=x) (v:=v) l 0 i o a0.tmps hn ho' hd;rw[ZL]at this;exact this.symm
    ·by_cases VK:j=i
     ·subst VK;simpa[Qq]using hv
     ·have e1:Qq x i v j=x j:=by simp only[Qq];rw[if_neg VK]
      rw[e1];rw[getD_set_ne true (Ne.symm VK)]at hl;exact(YA Φ j).mono _ _ _ gi (hx j hj hl))
  unfold Jb at hst;unfold wpOp;simp only[ho];split
  ·rename_i hw
   rw[if_pos hw]at hst;exact .inl hst
  ·rename_i hw
   rw[if_neg hw]at hst;exact hst
theorem K5:∀(m n:Nat),n≤m→Su (Array.replicate m false) n=n
 |m,0,_=>rfl
 |m,n+1,h=>by
  simp only[Su];rw[K5 m n ω];simp[show n<m by omega]
theorem vH{w W:World}(h:RowKit.Below w.drew.heap.size w.drew W):RowKit.Below w.heap.size w W:=⟨h.os,h.tape,h.output,h.size,h.block⟩
theorem Ek{id:Nat}{l:List Oper}{a0:Act}{w:World}(T:World→World→Prop)(Φ:List (Cd T))(hm:P.follows .mixedOrders=true)(hn:(Xs l).Nodup)(he:Z2 l=true)
 (hrf:T w.drew w.drew) (htr:∀W1 W2 W3,T W1 W2→T W2 W3→T W1 W3)
 (hsteps:∀x W,T w.drew W→∀a,a=(⟨Qi x 0 l a0.tmps,a0.defers⟩:Act)→Steps P l Q Φ x a W 0 l)
 (hdone:∀x W,T w.drew W→(∀i,i<l.length→(YA Φ i).p (x i) W)→∀a,a=(⟨Qi x 0 l a0.tmps,a0.defers⟩:Act)→Q .normal a W) :
 (Code.region id l.toArray true).wp P Q a0 w:=by
 refine wp_region_any hm (Qut (a0:=a0) (w1:=w.drew) (Φ:=Φ) hn he htr hsteps hdone l.toArray.size (Array.replicate l.toArray.size false) (Eu l a0.tmps) a0 w.drew ?_ ?_ hrf ?_)
 ·simpa using K5 l.length l.length (Nat.le_refl _)
 ·rw[Ke]
 ·intro i hi h;exfalso;simp[hi]at h
def bY(P:Program)(l:List Oper)(Q:Exit→Act→World→Prop){T:World→World→Prop}(Φ:List (Cd T))(x:Nat→Value)(a:Act)(W:World):Nat→List Oper→Prop
 |_,[]=>True
 |i,o::os=>((∀j,(h:(o.after.any fun e=>Region.binds .any e&&e.on==j)=true:=by kernel_rfl)→(YA Φ j).p (x j) W)→∀K:Act→World→Prop,Shut (∀v W',T W W'→(YA Φ i).p v W'→K (a.put o.dst v) W')→o.wp P a W K Q)∧bY P l Q Φ x a W (i+1) os
def Uj(l:List Oper):Bool:=l.all fun o=>o.guard.isNone
theorem Qnt{l:List Oper}{o:Oper}{K:Act→World→Prop}{a:Act}{w:World}(h:o.guard.isNone=true)(hw:o.wp P a w K Q):Jb P l Q o K a w:=by
 unfold Jb;have:Region.wanted o (yielded l.toArray a.tmps)=true:=by
  unfold Region.wanted;cases hg:o.guard with
  |none=>rfl
  |some g=>rw[hg]at h;cases h
 rw[if_pos this];exact hw
theorem ľ{l:List Oper}{T:World→World→Prop}{Φ:List (Cd T)}{x:Nat→Value}{a:Act}{W:World}:∀(os:List Oper)(i:Nat),Uj os=true→bY P l Q Φ x a W i os→Steps P l Q Φ x a W i os
 |[],_,_,_=>trivial
 |o::os,i,h,hs=>by
  have h':o.guard.isNone=true∧Uj os=true:=by simpa[Uj]using h
  exact⟨fun hd K hK=>Qnt h'.1 (hs.1 (fun j hj=>hd j hj) K hK),ľ os (i+1) h'.2 hs.2⟩
theorem Qv{id:Nat}{l:List Oper}{a0:Act}{w:World}(Φ:List (Cd (fun W W'=>RowKit.Below W.heap.size W W'))){F:(Nat→Value)→Array Value}
 (hsteps:∀x W,RowKit.Below w.heap.size w W→bY P l Q Φ x ⟨F x,a0.defers⟩ W 0 l)
 (hdone:∀x W,RowKit.Below w.heap.size w W→(∀i,(h:i<l.length:=by decide)→(YA Φ i).p (x i) W)→Q .normal ⟨F x,a0.defers⟩ W)
 (hF:∀x,Qi x 0 l a0.tmps=F x:=by intro x;simp only[Qi];simp only[List.setIfInBounds_toArray,List.set_cons_succ,List.set_cons_zero,Nat.zero_add,Nat.reduceAdd];rfl)
 (hm:P.follows .mixedOrders=true:=by kernel_rfl) (hn:(Xs l).Nodup:=by decide) (he:Z2 l=true:=by kernel_rfl) (hg:Uj l=true:=by kernel_rfl) :
 (Code.region id l.toArray true).wp P Q a0 w :=
 Ek _ Φ hm hn he (RowKit.Below.refl _ _) (fun _ _ _ h k=>h.trans (k.mono h.size))
  (fun x W h a ha=>by rw[hF]at ha;subst ha;exact ľ l 0 hg (hsteps x W (vH h)))
  (fun x W h hx a ha=>by rw[hF]at ha;subst ha;exact hdone x W (vH h) (fun i hi=>hx i hi))
theorem VO{w w1 w2:World}(h:RowKit.Hid (RowKit.Below w.heap.size w w1))(k:RowKit.Below w1.heap.size w1 w2):RowKit.Hid (RowKit.Below w.heap.size w w2):=h.out.trans (k.mono h.out.size)
theorem QD{α:Type}(a:α):∃b,a=b:=⟨_,rfl⟩
