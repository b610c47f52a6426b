import Derived.Test.YtihgojcfpnhelaaGreatDoorQj
set_option maxRecDepth 100000
set_option maxHeartbeats 4000000
set_option linter.all false
namespace Go.Proofs.YtihgojcfpnhelaaGreatDoor
open Go renaming World->zW,Value->zV,Calls->zC,Addr->zD
open Go.RowKit Go.Proofs.Tryz
open List renaming length→G
section
attribute [local go_sem] addr_add
def eM {w:zW} {base z n:Nat} {e:TypeId} {v:zV} {xs:List zV} (h:w.ownsRow base e z v n xs):∃ b cn,v=.slice b n cn:=by
 rcases h.2 with ⟨rfl,a⟩|⟨g,c,d,rfl,_⟩
 ·subst a;exact ⟨_,_,rfl⟩
 ·exact ⟨_,_,rfl⟩
def lI.own {w:zW} {base:Nat} {v:zV} {fs:List (Nat × Fd)} (h:w.ownsRow base 220 1 v (G fs) (cA fs)):lI w v fs:=by
 have e:=h.lt;rcases h.2 with ⟨rfl,c⟩|⟨g,a,b,rfl,f,d,_⟩
 ·obtain rfl:fs=[]:=oD c;exact ⟨none,0,rfl,λ_=>rfl,λj hj=>G9⟩
 ·refine ⟨some ⟨g,0,none⟩,a,rfl,(λh=>ir),λj hj=>⟨g,0,rfl,(cz.1 d).1,?_⟩⟩;have:=h.cellAt j ae;rw [cS];simpa [cA,hj] using this
def ac3:(prog.info? 323).map (λi=>(i.zero,i.size,i.bytes))=some (some (.pointer none),1,8):=aD
def Lm {S:Nat->Prop} (a:Option zD) (c at_ last:Nat) (fs:List (Nat × Fd)) (w:zW) (hs:Sh w S a fs) (hl:(G fs)<=100) (hla:last<G fs) (hat:at_<=last) (hc:(G fs)<=c) (hu:∀ i (h:i<G fs),i<at_->(fs[i]).1≠(fs[at_]'ae).1)
  (X:aC (fs[last]).2.nm (fs[at_]'ae).2.p=true) (hn:∀ i (h:i<G fs),last<i->aC (fs[i]).2.nm (fs[at_]'ae).2.p=false) :
  zC prog 215 #[.slice a (G fs) c,.pointer (some ⟨(fs[at_]'ae).1,0,none⟩)] w (IV fs at_ last (dB (fs[at_]'ae) ((fs.drop at_).take (last+1 - at_)) [] [] []) w):=by
 have H:at_<(G fs):=ae;have HI:=I (λW (C:zB w W)=>qI a c (fs[at_]).1 at_ fs W (hs.next C) ae H rfl hu);have HX:=I (λW (C:zB w W)=>(FH a c (fs[at_]).1 (fs[at_]).2 fs W (hs.next C) ae ((hs.next C).bX _ (bt H))).m (R':=λe w'=>e=.returned (zI last)/\zB W w') (by
  rintro e w' ⟨z,rfl,hz,hb'⟩;refine ⟨?_,hb'⟩;rcases hz with ⟨_,h⟩|⟨j,hj,rfl,K,h2⟩
  ·rw [h last hla] at X;cases X
  ·rcases Nat.lt_trichotomy j last with h|h|h
   ·have:=h2 last hla h;rw [X] at this;cases this
   ·rw [h]
   ·rw [hn j hj h] at K;cases K))
 obtain ⟨i1,gi,qh,qi,pD⟩:=fe oX;obtain ⟨i2,li,lz0,lz1,lz2⟩:=fe ac3;obtain ⟨J,L,rfl,hga,_⟩:=hs.ptr at_ H;have hFf:=hs.bX _ (bt H);have z1:¬ (last:Int)<(at_:Int):=ae;have z2:(at_:Int)<=(last:Int)+1:=ae;have z3:(last:Int)+1<=(c:Int):=ae;have z4:(0:Int)<=(at_:Int):=ae;have hwr:IntKind.i64.wrap ((last:Int)+1)=(last:Int)+1:=GD;have Y:=I hs;have AJ:=I hFf;clear hs hu X hn hFf;generalize fs[at_]=f at *;have xE:((fs.drop at_).take (last+1 - at_)).length=last+1 - at_:=aN;have ag9:∀ k (h:k<((fs.drop at_).take (last+1 - at_)).length),((fs.drop at_).take (last+1 - at_))[k]=fs[at_+k]'ae:=λk h=>aq;have Tq:=I (show ∀ x,x∈(fs.drop at_).take (last+1 - at_)->fB w S x.1 x.2 from λx hx=>Y.o.bX x (lD (lS hx)));have HPT:=I (show ∀ k (h:k<((fs.drop at_).take (last+1 - at_)).length),J<w.heap.size/\w.cell? ⟨J,L+at_+k,none⟩=some (.pointer (some ⟨(((fs.drop at_).take (last+1 - at_))[k]).1,0,none⟩)) from λk h=>by
  obtain ⟨g',o',K,h2,h3⟩:=Y.o.ptr (at_+k) ae;simp at K;obtain ⟨rfl,rfl⟩:=K;refine ⟨Y.o.still _ h2,?_⟩;rw [ag9 k h,oJ];exact h3)
 clear ag9;generalize hgs:(fs.drop at_).take (last+1 - at_)=gs at *;go_in;go_wp2_with (first|(go_at_call 165;refine (HI.o _ (aM _ _)).m ?_;rintro e w1 ⟨rfl,rfl⟩)|(go_at_call 233;refine mo (HX.o _ (aM _ _)) ?_;rintro e w1 ⟨rfl,hb1⟩));have HB:=I hb1;clear hb1 HI HX;apply I;go_wp2_with fail;have e22:decide (last<at_)=false:=aN;rw [e22];clear e22;go_loopg [8,9,10,30] (G gs) (λgk s8 s9 s10 s30 wr=>∃ (k:Nat) (st mv:List (Nat × Fd)) (R:List (Nat × List (Nat × Fd))),k<=G gs/\(G gs)<=k+gk/\s30=zI k/\Hid (QD S w wr f gs s8 s9 s10 k st mv R))
 case atStart=>exact ⟨0,[],[],[],bE _,ae,rfl,⟨rfl,eW _ _ _ _,eW _ _ _ _,eW _ _ _ _,λq h=>NP,λq h=>NP,λq h=>NP,λl hl=>by simp at hl,aq,λl hl=>by simp at hl,λx hx=>by simp at hx,HB.o⟩⟩
 case round=>
  obtain ⟨k,st,mv,R,hk,xA,rfl,gM⟩:=hrel;by_cases T:k<G gs
  ·generalize PS:last+1 - at_=nn at *;generalize hcc:c - at_=cc at *;have hkz:(k:Int)<(nn:Int):=ae;have anH:nn<=100:=ae;clear PS hcc hgs hwr z1 z2 z3 z4;obtain ⟨V,c6,rfl⟩:=eM gM.o.o6;obtain ⟨M,O,rfl⟩:=eM gM.o.o7;obtain ⟨a8,c8,rfl⟩:=eM gM.o.o8;have b1:(G st)<=100:=NV;have b2:(G mv)<=100:=NV;have b3:(G R)<=100:=NV;have hsz:=gM.o.bS.size;obtain ⟨amQ,Z⟩:=HPT.o k T;have afJ:=(gM.o.bS.cell (p:=⟨J,L+at_+k,none⟩) amQ).t Z;have hgf:=Tq.o _ (bt T);have HGE:=I (show ∃ g,gs[k]=g from ⟨_,rfl⟩);obtain ⟨g,tA⟩:=HGE.o;rw [tA] at hgf afJ;have HGQ:=I tA;have Jq:=I (QB (S:=S) (P:=DF (.slice V (G st) c6) (.slice M (G mv) O) (.slice a8 (G R) c8)) g f R a8 c8 wr (λq o=>bG (Y.o.still q o) hsz) (hgf.next Y.o.still gM.o.bS) (AJ.o.next Y.o.still gM.o.bS) ae (λj hj=>by
    obtain ⟨l1,l2⟩:=gM.o.lk _ (bt hj);refine ⟨l1,λx hx=>(l2 x hx).next Y.o.still gM.o.bS,?_⟩;obtain ⟨gb,cap,hv,hgb,amS⟩:=gM.o.o8.form ae;simp at hv;refine ⟨gb,hv.1,amS,?_⟩;have h8:=gM.o.o8;rw [hv.1] at h8;have:=h8.cellAt j ae;simpa [xu,hj] using this))
   clear Z HGE tA;cases o:dW g f (R.map Prod.snd) with
   | none=>
    have A:=I (Jq.o.m (R':=λe w'=>e=.returned (.pointer none)/\zB wr w') (by
     rintro e w' ⟨C,h⟩;rw [Ax,o] at h;exact ⟨h,C⟩))
    have HO6:=I (λw2 (C:zB wr w2)=>aZ gM.o.o6 C);have HST:=I (λw1 w2 v' K h2 h3 h4=>gM.o.stay (w1:=w1) (w2:=w2) (v':=v') T HGQ.o o K h2 h3 h4);clear o Jq gM hgf;go_wp2_with (go_at_call 234;refine mo A.o ?_;rintro e w2 ⟨rfl,s⟩);replace HO6:=I (HO6.o w2 s);have n:=I s;have hs2:=s.size;clear s A;apply I;go_wp2_with (at_builtin;refine rq _ rfl (.tmp 49) (.tmp 51) 101 rfl w.heap.size 220 i1 (.pointer none) 1 8 underlying101 gi qh qi pD rfl ai (.slice V (G st) c6) (G st) (cA st) rfl (HO6.o.alloc _) ⟨w2.heap.size,0,none⟩ 1 1 [.pointer (some ⟨g.1,0,none⟩)] rfl rfl (λq u o=>bC w2 [.pointer (some ⟨g.1,0,none⟩)] 220 q u o) (λu hu=>nw) ae jM ae aN (w2.heap.size+1) aq ?_;intro q6 cap w3 m d aha ar0;apply Hid.o);have HS2:=I (HST.o (w2.alloc (.cells #[.pointer (some ⟨g.1,0,none⟩)] 220)) w3 (zS q6 (G st+1) cap) (n.o.alloc hs2 _) d m (aha.imp (λh=>h.symm) λh=>⟨q6,rfl,ae⟩));clear m d aha HST n HO6;apply I;go_wp2;go_roundg (G gs - (k+1))
    case measure=>omega
    case rel=>exact ⟨k+1,_,_,_,ae,ae,ez,HS2⟩
   | some ch=>
    have A:=I (Jq.o.m (R':=λe w'=>∃ b,e=.returned (zJ b)/\Hid (eZ w' (λq=>DF (.slice V (G st) c6) (.slice M (G mv) O) (.slice a8 (G R) c8) q\/wr.heap.size<=q) b ch)/\zB wr w') (by
     rintro e w' ⟨C,h⟩;rw [Ax,o] at h;obtain ⟨b,K,h2,h3⟩:=h;exact ⟨b,K,h3,C⟩))
    have ar1:=DD o gM.o.len;have afM:(G ch)<=500:=ae;have y:=I gM.o.bS;obtain ⟨_,_,_,_,fa,fl,fc,hfr,hfP⟩:=AJ.o;have JS:=(cz.1 hfr).1;have JU:=I hfr;have HM:=I (λW (hW:zB w W)=>jh g.2.nm f.2.p fa fl fc W (hfP.next λq o=>hW.block q (Y.o.still q o)) (λq o=>bG (Y.o.still q o) hW.size));obtain ⟨_,_,_,_,ga1,gl1,gc1,hgr,_⟩:=hgf;have ahb:=(cz.1 hgr).1;have HGR:=I hgr;clear Jq hfr hfP hgr;cases X:aC g.2.nm f.2.p with
    | true=>
     have HCI:=I (show dB f gs [] [] []=.dZ ch from by
      rw [gM.o.eq,jL T,HGQ.o];simp only [dB,o,X];simp)
     rw [X] at HM;clear o X gM;go_wp2_with (go_at_call 234;refine mo A.o ?_;rintro e w2 ⟨b,rfl,hlk,s⟩);have n:=I (y.o.t (s.m hsz));obtain ⟨⟨k0,k1,k2,k3,k4,k5,k6⟩,_,_⟩:=fP ((n.o.block f.1 JS).t JU.o);obtain ⟨⟨j0,_⟩,_,_⟩:=fP ((n.o.block g.1 ahb).t HGR.o);have hs2:=n.o.size;have HC:=I (HM.o w2.drew n.o.drew);clear s A;apply I;go_wp2_with fail
     go_region_with (first|(go_at_call 195;refine HC.o.m ?_;rintro e w3 ⟨rfl,t⟩;have B3:=I t;clear t))
     all_goals have Ty:=I (Qz b ch w3 (hlk.o.next ((aM _ _).drew.t B3.o)) afM)
     all_goals go_wp2_with (go_at_call 235;refine mo Ty.o ?_;rintro e w4 ⟨v,rfl,m,hb4⟩)
     all_goals obtain ⟨av,cv,rfl⟩:=eM m
     all_goals have F:=I (show IV fs at_ last (dB f gs [] [] []) w (.returned (.tuple #[zN,.slice av (G ch) cv])) w4 from by
      rw [HCI.o];have rG:zB w w3:=n.o.drew.t (B3.o.m hs2);exact ⟨rG.t (hb4.m rG.size),_,rfl,dS m rG.size⟩)
     all_goals clear m hb4 Ty
     all_goals apply I
     all_goals go_wp2
     all_goals refine aK (v:=.tuple #[zN,.slice av (G ch) cv]) NH gN ?_
     all_goals exact F.o
    | false=>
     have HO7:=I (λw2 (C:zB wr w2)=>aZ gM.o.o7 C);have HO8:=I (λw2 w4 (C:zB wr w2) (hg:w2.grownBy w4 (Value.slice M (G mv) O).ownBlock)=>uD (w':=w4) gM.o.o8 λq o=>(hg.block q (bG (gM.o.o8.lt q o).2 C.size) (λe=>gM.o.d78 q e.symm o)).t (C.block q (gM.o.o8.lt q o).2));have HMV:=I (λw1 w2 w3 w4 v7 v8 b K h2 h3 h4 h5 h6 h7 h8 h9=>gM.o.move (w1:=w1) (w2:=w2) (w3:=w3) (w4:=w4) (v7:=v7) (v8:=v8) (b:=b) T HGQ.o o X Tq.o AJ.o K h2 h3 h4 h5 h6 h7 h8 h9);rw [X] at HM;clear o X gM;go_wp2_with (go_at_call 234;refine mo A.o ?_;rintro e w2 ⟨b,rfl,hlk,s⟩);have n:=I (y.o.t (s.m hsz));have amV:=I s;obtain ⟨⟨k0,k1,k2,k3,k4,k5,k6⟩,_,_⟩:=fP ((n.o.block f.1 JS).t JU.o);obtain ⟨⟨j0,_⟩,_,_⟩:=fP ((n.o.block g.1 ahb).t HGR.o);have hs2:=n.o.size;have amW:=s.size;have HC:=I (HM.o w2.drew n.o.drew);clear s A;apply I;go_wp2_with fail
     go_region_with (first|(go_at_call 195;refine HC.o.m ?_;rintro e w3 ⟨rfl,t⟩;have B3:=I t;clear t))
     all_goals have Jr:=I (show zB wr w3 from amV.o.drew.t (B3.o.m amW))
     all_goals have hs3:=Jr.o.size
     all_goals replace HO7:=I (HO7.o w3 Jr.o)
     all_goals have amX:=I (hlk.o.next ((aM _ _).drew.t B3.o))
     all_goals clear hlk
     all_goals go_wp2_with (at_builtin;refine rq _ rfl (.tmp 38) (.tmp 40) 101 rfl w.heap.size 220 i1 (.pointer none) 1 8 underlying101 gi qh qi pD rfl ai (.slice M (G mv) O) (G mv) (cA mv) rfl (HO7.o.alloc _) ⟨w3.heap.size,0,none⟩ 1 1 [.pointer (some ⟨g.1,0,none⟩)] rfl rfl (λq u o=>bC w3 [.pointer (some ⟨g.1,0,none⟩)] 220 q u o) (λu hu=>nw) ae jM ae aN (w3.heap.size+1) aq ?_;intro q7 cap w4 m d ahc ar3;apply Hid.o)
     all_goals have ahe:=I (Jr.o.alloc hs3 (.cells #[.pointer (some ⟨g.1,0,none⟩)] 220))
     all_goals replace HO8:=I (HO8.o _ _ ahe.o d)
     all_goals have hs4:w3.heap.size+1<=w4.heap.size:=by have:=d.size;simpa using this
     all_goals have HG4:=I d
     all_goals have Gc:=I m
     all_goals have HA7:=I ahc
     all_goals clear m d ahc
     all_goals apply I
     all_goals go_wp2_with (at_builtin;refine rq _ rfl (.tmp 42) (.tmp 44) 322 rfl w.heap.size 323 i2 (.pointer none) 1 8 underlying322 li lz0 lz1 lz2 rfl ai (.slice a8 (G R) c8) (G R) (xu R) rfl (HO8.o.alloc _) ⟨w4.heap.size,0,none⟩ 1 1 [zJ b] rfl rfl (λq u o=>bC w4 [zJ b] 323 q u o) (λu hu=>nw) ae jM ae aN (w4.heap.size+1) aq ?_;intro q8 amY w5 U E ahf ar4;apply Hid.o)
     all_goals have HS2:=I (HMV.o (w3.alloc (.cells #[.pointer (some ⟨g.1,0,none⟩)] 220)) w4 (w4.alloc (.cells #[zJ b] 323)) w5 (zS q7 (G mv+1) cap) (zS q8 (G R+1) amY) b ahe.o (amX.o.next (bZ _)) HG4.o Gc.o (HA7.o.imp (λh=>h.symm) λh=>⟨q7,rfl,aN⟩) (bZ _) E U (ahf.imp (λh=>h.symm) λh=>⟨q8,rfl,ae⟩))
     all_goals clear U E ahf
     all_goals apply I
     all_goals go_wp2
     all_goals go_roundg (G gs - (k+1))
     all_goals try (case measure=>omega)
     all_goals exact ⟨k+1,_,_,_,ae,ae,ez,HS2⟩
  ·obtain rfl:k=(G gs):=ae;obtain ⟨V,c6,rfl⟩:=eM gM.o.o6;obtain ⟨M,O,rfl⟩:=eM gM.o.o7;have hkz:¬ (((G gs):Nat):Int)<((last+1 - at_:Nat):Int):=ae;have AW:=I (show dB f gs [] [] []=.ok st mv from by
    rw [gM.o.eq,nY (aG _)];rfl)
   have HCN:=I gM.o.cnt;have y:=I gM.o.bS;have HP6:=I (lI.own gM.o.o6);have HP7:=I (lI.own gM.o.o7);have z5:(at_:Int)<=(c:Int):=ae;have z6:(last:Int)+1<=((G fs):Int):=ae;have z7:((G fs):Int)<=(c:Int):=ae;have z8:last+1<=c:=ae;have z9:last+1<=(G fs):=ae;have z10:(last:Int)<100:=ae;have D:=I (show ∀ (c4:Nat) (a4:zD),lI wr (.slice (some a4) (G fs - (last+1)) c4) (fs.drop (last+1))->zC prog 164 #[zS wr.heap.size 4 4] (wr.alloc (.cells #[.slice (some ⟨J,L,none⟩) at_ c,.slice V (G st) c6,.slice M (G mv) O,.slice (some a4) (G fs - (last+1)) c4] 101)).drew λe w'=>∃ N ln cn,e=.returned (.slice N ln cn)/\w'.ownsRow w.heap.size 220 1 (.slice N ln cn) (b9 [fs.take at_,st,mv,fs.drop (last+1)]).length (cA (b9 [fs.take at_,st,mv,fs.drop (last+1)]))/\zB w w' from λc4 a4 h4=>by
    have Q:=Y.o.next y.o;have B:zB wr (wr.alloc (.cells #[.slice (some ⟨J,L,none⟩) at_ c,.slice V (G st) c6,.slice M (G mv) O,.slice (some a4) (G fs - (last+1)) c4] 101)).drew:=(bZ _).drew;have hrow:(wr.alloc (.cells #[.slice (some ⟨J,L,none⟩) at_ c,.slice V (G st) c6,.slice M (G mv) O,.slice (some a4) (G fs - (last+1)) c4] 101)).drew.heap[wr.heap.size]?=some (.cells #[.slice (some ⟨J,L,none⟩) at_ c,.slice V (G st) c6,.slice M (G mv) O,.slice (some a4) (G fs - (last+1)) c4] 101 (0,0)):=bL wr _;have JY:(wr.alloc (.cells #[.slice (some ⟨J,L,none⟩) at_ c,.slice V (G st) c6,.slice M (G mv) O,.slice (some a4) (G fs - (last+1)) c4] 101)).drew.heap.size=wr.heap.size+1:=aq;generalize (wr.alloc (.cells #[.slice (some ⟨J,L,none⟩) at_ c,.slice V (G st) c6,.slice M (G mv) O,.slice (some a4) (G fs - (last+1)) c4] 101)).drew=W at *;have hsW:=Q.next B;obtain ⟨⟨r0,r1,r2,r3⟩,_,_⟩:=aX hrow;have p0:lI W (.slice (some ⟨J,L,none⟩) at_ c) (fs.take at_):=by
     have:=hsW.part 0 at_ c ae;simpa using this
    have p1:=HP6.o.next B;have p2:=HP7.o.next B;have p3:=h4.next B;refine (rK [fs.take at_,st,mv,fs.drop (last+1)] [.slice (some ⟨J,L,none⟩) at_ c,.slice V (G st) c6,.slice M (G mv) O,.slice (some a4) (G fs - (last+1)) c4] wr.heap.size 4 W rfl ae (λi hi=>?_) ?_ aq).m ?_
    ·exact Xi
    ·have:=HCN.o;simp [b9];omega
    ·rintro r w' ⟨v,rfl,ho,hb'⟩;obtain ⟨N,ln,cn,rfl⟩:=b7 ho;exact ⟨N,ln,cn,rfl,dS ho (bf y.o.size B.size),y.o.t ((B.t (hb'.m B.size)).m y.o.size)⟩)
   have Q:=Y.o.next y.o;clear gM;have F:=I (show ∀ N ln cn w3,w3.ownsRow w.heap.size 220 1 (.slice N ln cn) (b9 [fs.take at_,st,mv,fs.drop (last+1)]).length (cA (b9 [fs.take at_,st,mv,fs.drop (last+1)]))->zB w w3->IV fs at_ last (dB f gs [] [] []) w (.returned (.tuple #[.slice N ln cn,zN])) w3 from λN ln cn w3 K h2=>by
    rw [AW.o];exact ⟨h2,_,rfl,K⟩)
   by_cases y3:c=last+1
   ·have SU:=I (D.o 0 ⟨J,L,none⟩ (by
     have e1:(G fs) - (last+1)=0:=ae;rw [e1,nY ae];exact lI.empty _ _ _))
    subst y3;rw [show (G fs) - (last+1)=0 from ae] at SU;clear D Q;go_wp2_with fail
    go_region_with (first|(go_at_call 164;refine SU.o.m ?_;rintro r w3 ⟨N,ln,cn,rfl,ho,t⟩;have C1:=I ho;have C2:=I t;clear ho t))
    all_goals go_wp2
    all_goals refine aK (v:=.tuple #[.slice N ln cn,zN]) NH gN ?_
    all_goals exact F.o _ _ _ _ C1.o C2.o
   ·have SU:=I (D.o (c - (last+1)) ⟨J,L+(last+1),none⟩ (by
     have:=Q.part (last+1) (G fs - (last+1)) (c - (last+1)) ae;rw [qy aq] at this;exact this))
    clear D Q;go_wp2_with fail
    go_region_with (first|(go_at_call 164;refine SU.o.m ?_;rintro r w3 ⟨N,ln,cn,rfl,ho,t⟩;have C1:=I ho;have C2:=I t;clear ho t))
    all_goals go_wp2
    all_goals refine aK (v:=.tuple #[.slice N ln cn,zN]) NH gN ?_
    all_goals exact F.o _ _ _ _ C1.o C2.o
end
def yQ (S:Nat->Prop) (w w':zW) (a:Option zD) (c:Nat) (gs:List (Nat × Fd)):Prop:=
 ∃ S':Nat->Prop,(∀ q,S q->S' q)/\(∀ q,S' q->S q\/w.heap.size<=q)/\Sh w' S' a gs/\(G gs)<=c
def Sh.nj {w W:zW} {S:Nat->Prop} {a:Option zD} {fs gs:List (Nat × Fd)} {v:zV} (hs:Sh w S a fs) (k:zB w W) (n:W.ownsRow w.heap.size 220 1 v (G gs) (cA gs)) (c:∀ x,x∈gs->x∈fs) (i:gs≠[]) :
  ∃ l m,v=.slice l (G gs) m/\yQ S w W l m gs:=by
 rcases n.2 with ⟨_,z⟩|⟨g,A,B,rfl,C,u,h3,_⟩
 ·exact absurd (oD z) i
 ·have d:=(cz.1 u).1;refine ⟨_,_,rfl,λq=>S q\/q=g,λq b=>Or.inl b,λq b=>b.imp id λe=>ae,⟨?_,?_,?_⟩,B8⟩
  ·rintro q (b|rfl)
   ·exact bG (hs.still q b) k.size
   ·exact d
  ·intro j s;refine ⟨g,0,rfl,Or.inr rfl,?_⟩;have:=n.cellAt j ae;rw [cS];simpa [cA,s] using this
  ·intro x t;have o:=hs.bX x (c x t);have y:=o.lt;have f:=o.next hs.still k;obtain ⟨f1,f2,f3,f4,r,p,c1,f5,f6⟩:=f;refine ⟨?_,f2,f3,f4,r,p,c1,f5,f6.wide λq b=>Or.inl b⟩;rintro (h|h)
   ·exact f1 h
   ·omega
def qg (S:Nat->Prop) (r:Ek) (w:zW) (e:Ending) (w':zW):Prop:=
 zB w w'/\match r with
 | .ok gs=>∃ b a,e=.returned (.tuple #[.slice b (G gs) a,zN])/\yQ S w w' b a gs
 | .dZ c=>∃ v,e=.returned (.tuple #[zN,v])/\w'.ownsRow w.heap.size 220 1 v (G c) (cA c)
def wZ {fs st mv:List (Nat × Fd)} {at_ l:Nat} (h:∀ x,x∈st++mv->x∈fs):∀ x,x∈b9 [fs.take at_,st,mv,fs.drop l]->x∈fs:=by
 intro x hx;simp [b9] at hx;rcases hx with hx|hx|hx|hx
 ·exact lS hx
 ·exact h x iE
 ·exact h x iE
 ·exact lD hx
def Qq {S:Nat->Prop} (a:Option zD) (c at_:Nat) (fs:List (Nat × Fd)) (f:Nat × Fd) (w:zW) (hs:Sh w S a fs) (u:(G fs)<=100) (g:at_<G fs) (E:fs[at_]=f) (r:(G fs)<=c) (m:∀ i (h:i<G fs),i<at_->(fs[i]).1≠f.1) :
  zC prog 215 #[.slice a (G fs) c,.pointer (some ⟨f.1,0,none⟩)] w (qg S (jW fs at_ f) w):=by
 subst E;have same:∀ w',zB w w'->qg S (.ok fs) w (.returned (.tuple #[.slice a (G fs) c,zN])) w':=λw' b=>⟨b,a,c,rfl,S,λq h=>h,λq h=>Or.inl h,hs.next b,r⟩;unfold jW;cases s:kT (fs[at_]).2.p fs with
 | none=>
  refine (Aw a c at_ fs w hs ae g m λi p _=>sg s i p).m ?_;rintro e w' ⟨rfl,b⟩;exact same w' b
 | some l=>
  obtain ⟨A,C,t⟩:=si s;simp only;split
  ·rename_i n;refine (Aw a c at_ fs w hs ae g m λi p h=>t i p ae).m ?_;rintro e w' ⟨rfl,b⟩;exact same w' b
  ·rename_i n;refine (Lm a c at_ l fs w hs u A ae r m C t).m ?_;rintro e w' ⟨b,h⟩;cases k:dB fs[at_] ((fs.drop at_).take (l+1 - at_)) [] [] [] with
   | ok st mv=>
    rw [k] at h;obtain ⟨v,rfl,D⟩:=h;have d:=wZ (at_:=at_) (l:=l+1) (fs:=fs) (st:=st) (mv:=mv) λx y=>by
     have:=qT _ _ _ _ _ _ _ k x y;simp at this;exact lD (lS this)
    have o:b9 [fs.take at_,st,mv,fs.drop (l+1)]≠[]:=by
     intro e;have j:=eL List.length e;have:=yF _ _ _ _ _ _ _ k;simp only [b9,b6,nZ,sF,mG] at j this;omega
    obtain ⟨z,B,rfl,hO⟩:=hs.nj b D d o;exact ⟨b,z,B,rfl,hO⟩
   | dZ F=>
    rw [k] at h;exact ⟨b,h⟩
def nt (fs:List (Nat × Fd)) (at_ j:Nat) (b:at_<G fs) (f:j<at_):(eK fs at_ j).length=G fs/\(∀ x,x∈eK fs at_ j->x∈fs)/\(∀ (h:j<(eK fs at_ j).length),(eK fs at_ j)[j]=fs[at_])/\∀ i (h:i<(eK fs at_ j).length) (d:i<G fs),i<j->(eK fs at_ j)[i]=fs[i]:=by
 have a:(eK fs at_ j).length=(G fs):=by
  simp only [eK,b9,b6,nZ,sF,mG];omega
 refine ⟨a,?_,?_,?_⟩
 ·intro x hx;simp only [eK,b9,cG,jA,iK] at hx;rcases hx with hx|hx|hx|hx
  ·exact lS hx
  ·exact Zb
  ·exact Zb
  ·exact lD hx
 ·intro h;have e:(eK fs at_ j)[j]?=some fs[at_]:=by
   simp only [eK,b9];rw [qx aN,sy aN];simp;rw [show j - min j (G fs)=0 from ae];simp [b]
  exact YQ
 ·intro i h d c;have e:(eK fs at_ j)[i]?=some fs[i]:=by
   simp only [eK,b9];rw [sy aN];simp [c,d]
  exact YQ
def qg.after {S:Nat->Prop} {S1:Nat->Prop} {r:Ek} {w w1:zW} {e:Ending} {w':zW} (h:qg S1 r w1 e w') (a:zB w w1) (f:∀ q,S q->S1 q) (i:∀ q,S1 q->S q\/w.heap.size<=q):qg S r w e w':=by
 obtain ⟨c,h⟩:=h;refine ⟨a.t (c.m a.size),?_⟩;cases r with
 | ok gs=>
  obtain ⟨j,g,b,S',s1,s2,s3⟩:=h;exact ⟨j,g,b,S',λq d=>s1 q (f q d),λq d=>(s2 q d).elim (λh=>i q h) λh=>Or.inr (bf a.size h),s3⟩
 | dZ l=>
  obtain ⟨v,b,k⟩:=h;exact ⟨v,b,dS k a.size⟩
def Cx {S:Nat->Prop} (a:Option zD) (c at_:Nat) (fs:List (Nat × Fd)) (f:Nat × Fd) (w:zW) (hs:Sh w S a fs) (P:(G fs)<=100) (g:at_<G fs) (s:fs[at_]=f) (B:(G fs)<=c) (n:∀ i (h:i<G fs),i<at_->(fs[i]).1≠f.1) :
  zC prog 190 #[.slice a (G fs) c,.pointer (some ⟨f.1,0,none⟩)] w (qg S (dL fs at_ f) w):=by
 have L:zC prog 216 #[.slice a (G fs) c,.pointer (some ⟨f.1,0,none⟩)] w λe w'=>∃ b d,e=.returned (.slice b (bY fs at_ f).1.length d)/\yQ S w w' b d (bY fs at_ f).1/\zB w w':=by
  subst s;unfold bY;cases hF:lJ (fs[at_]).2.nm (fs.take at_) with
  | none=>
   refine (Qr a c at_ fs w hs ae g n (λi u h=>?_) B).m ?_
   ·have:=xp hF i aN;simpa using this
   ·rintro e w' ⟨rfl,l⟩;exact ⟨a,c,rfl,⟨S,λq h=>h,λq h=>Or.inl h,hs.next l,B⟩,l⟩
  | some j=>
   obtain ⟨C,h2,X⟩:=ng hF;simp at C;obtain ⟨t,H,_,_⟩:=nt fs at_ j g ae;refine (Qs a c at_ j fs w hs P g ae n tI (λi u h=>?_) B).m ?_
   ·have:=X i aN h;simpa using this
   ·rintro e w' ⟨v,rfl,D,l⟩;obtain ⟨b,d,rfl,hO⟩:=hs.nj l D H (λe=>by rw [e] at t;simp only [nZ] at t;omega);exact ⟨b,d,rfl,hO,l⟩
 have M:∀ b d W,yQ S w W b d (bY fs at_ f).1->zB w W->zC prog 215 #[.slice b (bY fs at_ f).1.length d,.pointer (some ⟨f.1,0,none⟩)] W (qg S (dL fs at_ f) w):=by
  rintro b d W ⟨S1,s1,s2,s3,s4⟩ l;have k:(bY fs at_ f).1.length=G fs/\∃ h:(bY fs at_ f).2<(bY fs at_ f).1.length,(bY fs at_ f).1[(bY fs at_ f).2]=f/\∀ i (h:i<(bY fs at_ f).1.length),i<(bY fs at_ f).2->((bY fs at_ f).1[i]).1≠f.1:=by
   unfold bY;cases hF:lJ f.2.nm (fs.take at_) with
   | none=>exact ⟨rfl,g,s,n⟩
   | some j=>
    obtain ⟨C,_,_⟩:=ng hF;simp at C;obtain ⟨t,H,O,R⟩:=nt fs at_ j g ae;refine ⟨t,Cp,by simp only;rw [O ae];exact s,λi u m=>?_⟩;simp only at u m ⊢;rw [R i u ae m];exact n i ae ae
  obtain ⟨e1,N,V,T⟩:=k;exact (Qq b d _ _ f W s3 ae N V s4 T).m λe w' h=>h.after l s1 s2
 have p:=I L;have r:=I M;clear L M hs n s;generalize (bY fs at_ f).1=Q at *;generalize dL fs at_ f=J at *;go_in;go_wp2_with (go_at_call 216;refine mo p.o ?_;rintro e w1 ⟨b,d,rfl,hO,o⟩);have K:=I ((r.o b d w1 hO o).m (R':=λe w'=>∃ (A:Option zD) (z c1:Nat) (E:Option zD) (y c2:Nat),e=.returned (.tuple #[.slice A z c1,.slice E y c2])/\Hid (qg S J w e w')) (by
  rintro e w' h;have F:=h;obtain ⟨_,h⟩:=h;cases J with
  | ok gs=>
   obtain ⟨b,d,x,_⟩:=h;exact ⟨_,_,_,_,_,_,x,F⟩
  | dZ ch=>
   obtain ⟨v,x,D⟩:=h;obtain ⟨Z,Y,rfl⟩:=eM D;exact ⟨_,_,_,_,_,_,x,F⟩))
 clear hO o p r;apply I;go_wp2_with (go_at_call 215;refine mo K.o ?_;rintro e w2 ⟨A,z,c1,E,y,c2,rfl,U⟩);clear K;apply I;go_wp2;refine aK (v:=.tuple #[.slice A z c1,.slice E y c2]) (by simp [results,results190,go_sem]) gN ?_;exact U.o
def xJ (fs gs:List (Nat × Fd)) (at_:Nat) (f:Nat × Fd) (g:at_<G fs) (t:fs[at_]=f) (h:dL fs at_ f=.ok gs):(G gs)=G fs/\∀ x,x∈gs->x∈fs:=by
 have n:(bY fs at_ f).1.length=G fs/\(∀ x,x∈(bY fs at_ f).1->x∈fs)/\(bY fs at_ f).2<=at_:=by
  unfold bY;cases hF:lJ f.2.nm (fs.take at_) with
  | none=>exact ⟨rfl,λx e=>e,aG _⟩
  | some j=>
   obtain ⟨i,_,_⟩:=ng hF;simp at i;obtain ⟨p,o,_,_⟩:=nt fs at_ j g ae;exact ⟨p,o,Cp⟩
 unfold dL jW at h;generalize (bY fs at_ f).1=f1 at *;generalize (bY fs at_ f).2=m at *;obtain ⟨k,d,s⟩:=n;cases c:kT f.2.p f1 with
 | none=>
  rw [c] at h;cases h;exact ⟨k,d⟩
 | some l=>
  obtain ⟨i,_,_⟩:=si c;rw [c] at h;simp only at h;split at h
  ·cases h;exact ⟨k,d⟩
  ·cases b:dB f ((f1.drop m).take (l+1 - m)) [] [] [] with
   | dZ r=>rw [b] at h;cases h
   | ok st mv=>
    rw [b] at h;cases h;have a:=yF _ _ _ _ _ _ _ b;refine ⟨?_,λx e=>d x (wZ (λy q=>?_) x e)⟩
    ·simp only [b9,b6,nZ,sF,mG] at a ⊢;omega
    ·have:=qT _ _ _ _ _ _ _ b y q;simp at this;exact lD (lS this)
def Qt {T:Nat × Fd->Prop} {g f:Nat × Fd} {b:List (List (Nat × Fd))} {c:List (Nat × Fd)} (h:dW g f b=some c) (m:∀ l,l∈b->∀ x,x∈l->T x) (i:T g) (k:T f):∀ x,x∈c->T x:=by
 unfold dW at h;split at h
 ·cases h;intro x a;simp at a;rw [a];exact k
 ·obtain ⟨e,d,j⟩:=oF.1 h;rw [<- j];intro x a;simp at a;rcases a with rfl|a
  ·exact i
  ·exact m e (vK d) x a
def xq {T:Nat × Fd->Prop} (f:Nat × Fd) (j:T f):∀ (gs st mv:List (Nat × Fd)) (d:List (List (Nat × Fd))) (c:List (Nat × Fd)),dB f gs st mv d=.dZ c->(∀ l,l∈d->∀ x,x∈l->T x)->(∀ x,x∈gs->T x)->(∀ x,x∈c->T x)/\c≠[]
 | [],st,mv,d,c,h,_,_=>by
  simp only [dB] at h;cases h
 | g::r,st,mv,d,c,h,e,i=>by
  simp only [dB] at h;cases b:dW g f d with
  | none=>
   rw [b] at h;exact xq f j r _ _ _ _ h e λx hx=>i x iE
  | some n=>
   rw [b] at h;simp only at h;have k:=Qt b e (i g aq) j;split at h
   ·cases h;refine ⟨k,?_⟩;unfold dW at b;split at b
    ·cases b;simp
    ·obtain ⟨c2,_,m⟩:=oF.1 b;rw [<- m];simp
   ·refine xq f j r _ _ _ _ h (λl a=>?_) λx hx=>i x iE;simp at a;rcases a with a|rfl
    ·exact e l a
    ·exact k
def zY (fs c:List (Nat × Fd)) (at_:Nat) (f:Nat × Fd) (a:at_<G fs) (n:fs[at_]=f) (h:dL fs at_ f=.dZ c):(∀ x,x∈c->x∈fs)/\c≠[]:=by
 have m:∀ x,x∈(bY fs at_ f).1->x∈fs:=by
  unfold bY;cases hF:lJ f.2.nm (fs.take at_) with
  | none=>exact λx d=>d
  | some j=>
   obtain ⟨i,_,_⟩:=ng hF;simp at i;exact (nt fs at_ j a ae).2.1
 unfold dL jW at h;generalize (bY fs at_ f).1=f1 at *;generalize (bY fs at_ f).2=g at *;cases e:kT f.2.p f1 with
 | none=>rw [e] at h;cases h
 | some l=>
  rw [e] at h;simp only at h;split at h
  ·cases h
  ·cases b:dB f ((f1.drop g).take (l+1 - g)) [] [] [] with
   | ok st mv=>rw [b] at h;cases h
   | dZ o=>
    rw [b] at h;cases h;exact xq (T:=λx=>x∈fs) f (n▸bt a) _ _ _ _ _ b (λl k=>by simp at k) λx d=>m x (lD (lS d))
def cV (φ:Nat->Nat) (g:Nat × Fd):Nat × Fd:=(φ g.1,g.2)
def Uo.re (φ:Nat->Nat):Uo->Uo
 | .ok st mv=>.ok (st.map (cV φ)) (mv.map (cV φ))
 | .dZ a=>.dZ (a.map (cV φ))
def Ek.re (φ:Nat->Nat):Ek->Ek
 | .ok gs=>.ok (gs.map (cV φ))
 | .dZ a=>.dZ (a.map (cV φ))
def ae5 (φ:Nat->Nat) (g:Nat × Fd) (a:List (Nat × Fd)):yZ (cV φ g) (a.map (cV φ))=yZ g a:=by
 cases a<;>rfl
def Up (φ:Nat->Nat) (g f:Nat × Fd) (a:List (List (Nat × Fd))) (h:φ g.1=φ f.1->g.1=f.1):dW (cV φ g) (cV φ f) (a.map (List.map (cV φ)))=(dW g f a).map (List.map (cV φ)):=by
 unfold dW;by_cases e:g.1=f.1
 ·have:(cV φ g).1=(cV φ f).1:=eL φ e;rw [aB e,aB this];rfl
 ·have:¬ (cV φ g).1=(cV φ f).1:=λb=>e (h b);rw [aA e,aA this,oI];have:(yZ (cV φ g) ∘ List.map (cV φ))=yZ g:=by
   funext ch;exact ae5 φ g ch
  rw [this];cases a.find? (yZ g)<;>rfl
def C8 (φ:Nat->Nat) (f:Nat × Fd):∀ (gs st mv:List (Nat × Fd)) (a:List (List (Nat × Fd))),(∀ g,g∈gs->φ g.1=φ f.1->g.1=f.1)->dB (cV φ f) (gs.map (cV φ)) (st.map (cV φ)) (mv.map (cV φ)) (a.map (List.map (cV φ)))=(dB f gs st mv a).re φ
 | [],st,mv,a,_=>rfl
 | g::r,st,mv,a,h=>by
  have c:∀ x,x∈r->φ x.1=φ f.1->x.1=f.1:=λx hx=>h x iE;simp only [fL,dB];rw [Up φ g f a (h g aq)];cases dW g f a with
  | none=>
   have:=C8 φ f r (st++[g]) mv a c;simpa using this
  | some d=>
   simp only [oH];by_cases b:aC g.2.nm f.2.p=true
   ·have:aC (cV φ g).2.nm (cV φ f).2.p=true:=b;rw [aB b,aB this];rfl
   ·have:¬ aC (cV φ g).2.nm (cV φ f).2.p=true:=b;rw [aA b,aA this];have:=C8 φ f r st (mv++[g]) (a++[d]) c;simpa using this
def KJ (φ:Nat->Nat) (b:List (List (Nat × Fd))):b9 (b.map (List.map (cV φ)))=(b9 b).map (cV φ):=by
 induction b with
 | nil=>rfl
 | cons a r c=>simp only [fL,b9,c,fK]
def KL (φ:Nat->Nat) (x:By):∀ fs,lJ x (fs.map (cV φ))=lJ x fs
 | []=>rfl
 | g::r=>by
  simp only [fL,lJ,KL φ x r];rfl
def KM (φ:Nat->Nat) (p:Pt):∀ fs,kT p (fs.map (cV φ))=kT p fs
 | []=>rfl
 | g::r=>by
  simp only [fL,kT,KM φ p r];rfl
def PM (φ:Nat->Nat) (fs:List (Nat × Fd)) (at_ j:Nat):eK (fs.map (cV φ)) at_ j=(eK fs at_ j).map (cV φ):=by
 unfold eK;rw [<- KJ];simp [List.map_take,List.map_drop]
def PN (φ:Nat->Nat) (fs:List (Nat × Fd)) (at_:Nat) (f:Nat × Fd):bY (fs.map (cV φ)) at_ (cV φ f)=((bY fs at_ f).1.map (cV φ),(bY fs at_ f).2):=by
 unfold bY;have:lJ (cV φ f).2.nm ((fs.map (cV φ)).take at_)=lJ f.2.nm (fs.take at_):=by
  rw [<- List.map_take];exact KL φ _ _
 rw [this];cases lJ f.2.nm (fs.take at_) with
 | none=>rfl
 | some j=>simp only [PM]
def Uq {b:List (List (Nat × Fd))} {x:Nat × Fd} (h:x∈b9 b):∃ l,l∈b/\x∈l:=by
 induction b with
 | nil=>simp [b9] at h
 | cons a r d=>
  rcases cG.1 h with h|h
  ·exact ⟨a,aq,h⟩
  ·obtain ⟨l,h1,c⟩:=d h;exact ⟨l,yN,c⟩
def Ak (fs:List (Nat × Fd)) (at_:Nat) (f:Nat × Fd):∀ x,x∈(bY fs at_ f).1->x∈fs:=by
 unfold bY;cases lJ f.2.nm (fs.take at_) with
 | none=>exact λx a=>a
 | some j=>
  intro x a;obtain ⟨l,b,h2⟩:=Uq a;simp at b;rcases b with rfl|rfl|rfl|rfl
  ·exact lS h2
  ·exact Y9
  ·exact Y9
  ·exact lD h2
def Ur (φ:Nat->Nat) (fs:List (Nat × Fd)) (at_:Nat) (f:Nat × Fd) (h:∀ g,g∈fs->φ g.1=φ f.1->g.1=f.1):dL (fs.map (cV φ)) at_ (cV φ f)=(dL fs at_ f).re φ:=by
 unfold dL;rw [PN];have i:=Ak fs at_ f;generalize (bY fs at_ f).1=f1 at *;generalize (bY fs at_ f).2=a at *;unfold jW;have e:kT (cV φ f).2.p (f1.map (cV φ))=kT f.2.p f1:=KM φ _ _;rw [e];cases kT f.2.p f1 with
 | none=>rfl
 | some l=>
  simp only;by_cases b:l<a
  ·rw [aB b,aB b];rfl
  ·rw [aA b,aA b];have c:=C8 φ f ((f1.drop a).take (l+1 - a)) [] [] [] λg d=>h g (i g (lD (lS d)));simp only [List.map_nil,List.map_take,List.map_drop] at c;rw [c];cases dB f ((f1.drop a).take (l+1 - a)) [] [] [] with
   | ok st mv=>
    simp only [Uo.re,Ek.re];rw [<- KJ];simp [List.map_take,List.map_drop]
   | dZ j=>rfl
def Us (φ:Nat->Nat) (gs:List (Nat × Fd)) (x:By):findF (gs.map (cV φ)) x=(findF gs x).map (cV φ):=by
 unfold findF;rw [oI];rfl
def Ii (φ:Nat->Nat) (gs:List (Nat × Fd)):mW (gs.map (cV φ))=mW gs:=by
 funext x;unfold mW;rw [Us];cases findF gs x<;>rfl
def abX (φ:Nat->Nat) (gs:List (Nat × Fd)) (b:Nat) (v:Vl) (h:∀ g,g∈gs->φ g.1=φ b->g.1=b):qH (gs.map (cV φ)) (φ b) v=(qH gs b v).map (cV φ):=by
 unfold qH;rw [fM,fM];refine sB λg a=>?_;simp only [Function.comp];by_cases e:g.1=b
 ·have:(cV φ g).1=φ b:=eL φ e;rw [aB e,aB this];rfl
 ·have:¬ (cV φ g).1=φ b:=λc=>e (h g a c);rw [aA e,aA this]
def PO (φ:Nat->Nat) (gs:List (Nat × Fd)) (b:Nat) (h:∀ g,g∈gs->φ g.1=φ b->g.1=b):oh (gs.map (cV φ)) (φ b)=oh gs b:=by
 unfold oh;rw [oI];have:gs.find? ((λf:Nat × Fd=>f.1 == φ b) ∘ cV φ)=gs.find? (λf=>f.1 == b):=by
  refine find_congr gs _ _ λg hg=>?_;show (φ g.1 == φ b)=(g.1 == b);by_cases e:g.1=b
  ·rw [e];simp
  ·have:¬ φ g.1=φ b:=λd=>e (h g hg d);rw [bo.2 e,bo.2 this]
 rw [this];cases gs.find? (λf=>f.1 == b)<;>rfl
 where
 find_congr (l:List (Nat × Fd)) (p q:Nat × Fd->Bool) (h:∀ g,g∈l->p g=q g):l.find? p=l.find? q:=by
  induction l with
  | nil=>rfl
  | cons a r c=>
   rw [List.find?_cons,List.find?_cons,h a aq];rw [c λg hg=>h g rI]
def yS (φ:Nat->Nat):∀ (ks:List Nat) (gs:List (Nat × Fd)),(∀ k,k∈ks->∀ g,g∈gs->φ g.1=φ k->g.1=k)->iR (gs.map (cV φ)) (ks.map φ)=(iR gs ks).map (cV φ)
 | [],gs,_=>rfl
 | k::r,gs,h=>by
  simp only [fL,iR];rw [PO φ gs k (h k aq),Ii,abX φ gs k _ (h k aq)];refine yS φ r _ λi b g c=>?_;have:g.1∈(qH gs k (cD (mW gs) (oh gs k))).map (λf=>f.1):=iJ c;rw [Ut] at this;obtain ⟨d,a,e⟩:=bU.1 this;rw [<- e];exact h i (by simp [b]) d a
def uM (φ:Nat->Nat):∀ (gs:List (Nat × Fd)) (on:List By),aO on (gs.map (cV φ))=(aO on gs).map (cV φ)
 | [],_=>rfl
 | g::r,on=>by
  simp only [fL,aO];by_cases h:anyM on g.2.p=true
  ·have a:anyM on (cV φ g).2.p=true:=h;rw [aB h,aB a,fL];congr 1;exact uM φ r (on++[g.2.nm])
  ·have a:¬ anyM on (cV φ g).2.p=true:=h;rw [aA h,aA a];exact uM φ r on
def aT (fs:List Fd):List (Nat × Fd):=fs.zipIdx.map λx=>(x.2,x.1)
inductive AR where
 | ok (fs:List Fd) (nm:List By)
 | err (c:Nat) (nm:List By)
def fq (fs:List Fd) (i:Nat) (f:Fd):AR:=match dL (aT fs) i (i,f) with
 | .ok gs=>.ok ((iR gs (((i,f)::aO [f.nm] gs).map λx=>x.1)).map Prod.snd) (cJ ((i,f)::aO [f.nm] gs))
 | .dZ a=>.err 8 (cJ a)
def mK (fs:List Fd) (x:By) (p:Pt):AR:=match fs.findIdx? (λf=>f.nm == x) with
 | some i=>match fs[i]? with
  | some f=>fq (fs.set i ⟨f.nm,p,f.v⟩) i ⟨f.nm,p,f.v⟩
  | none=>.err 5 []
 | none=>if (G fs)=10 then .err 7 [] else fq (fs++[⟨x,p,(0,0)⟩]) (G fs) ⟨x,p,(0,0)⟩
def mL (fs:List Fd) (x:By):AR:=match fs.findIdx? (λf=>f.nm == x) with
 | none=>.err 5 []
 | some i=>.ok ((iR (aT (fs.eraseIdx i)) ((aO [x] (aT (fs.eraseIdx i))).map λx=>x.1)).map Prod.snd) (cJ (aO [x] (aT (fs.eraseIdx i))))
def dN (x y:By) (f:Fd):Fd:=⟨if f.nm=x then y else f.nm,aR x y f.p,f.v⟩
def kr (fs:List Fd) (x y:By):AR:=match fs.findIdx? (λf=>f.nm == x) with
 | none=>.err 5 []
 | some i=>if (fs.find? λf=>f.nm == y).isSome then .err 6 [] else if fs.any (λf=>aC x f.p&&decide (100<(txt (aR x y f.p)).length)) then .err 7 [] else match fs[i]? with
  | some f=>fq (fs.map (dN x y)) i (dN x y f)
  | none=>.err 5 []
def eA (fs:List Fd):(aT fs).length=(G fs):=by simp [aT]
def cW (fs:List Fd):(aT fs).map Prod.snd=fs:=by
 unfold aT;rw [fM];exact List.zipIdx_map_fst 0 fs
def qE (fs:List Fd) (i:Nat) (h:i<G fs):(aT fs)[i]?=some (i,fs[i]):=by
 simp [aT,h]
def xK:∀ (l:List Nat) (_:l.Nodup) (i:Nat) (h:i<G l),l.idxOf l[i]=i
 | [],_,i,h=>oV
 | a::r,b,0,h=>aq
 | a::r,b,i+1,h=>by
  rw [jB] at b;have d:i<(G r):=jP;have c:a≠r[i]:=λe=>b.1 (e▸bt d);simp only [List.getElem_cons_succ];rw [List.idxOf_cons,bo.2 c,xK r b.2 i d];rfl
def xL (gs:List (Nat × Fd)) (c:(gs.map Prod.fst).Nodup):gs.map (cV λb=>(gs.map Prod.fst).idxOf b)=aT (gs.map Prod.snd):=by
 apply rC
 ·simp [aT]
 ·intro i h1 d;have hi:i<(G gs):=vP;have a:(gs.map Prod.fst).idxOf (gs[i]).1=i:=by
   have:=xK _ c i tG;simpa using this
  simp [cV,aT,a]
def CD (gs:List (Nat × Fd)) (a b:Nat) (e:a∈gs.map Prod.fst) (f:b∈gs.map Prod.fst) (h:(gs.map Prod.fst).idxOf a=(gs.map Prod.fst).idxOf b):a=b:=by
 have d:=List.getElem_idxOf (List.idxOf_lt_length_of_mem e);have c:=List.getElem_idxOf (List.idxOf_lt_length_of_mem f);rw [<- d,<- c];simp only [h]
def JW (fs:List (Nat × Fd)) (w:(fs.map Prod.fst).Nodup) (i:Nat) (f:Nat × Fd) (F:fs[i]?=some f):fq (fs.map Prod.snd) i f.2=match dL fs i f with
  | .ok gs=>.ok ((iR gs ((f::aO [f.2.nm] gs).map λx=>x.1)).map Prod.snd) (cJ (f::aO [f.2.nm] gs))
  | .dZ s=>.err 8 (cJ s):=by
 obtain ⟨d,c⟩:=fI.1 F;have e:f.1∈fs.map Prod.fst:=iJ (c▸bt d);have o:(fs.map Prod.fst).idxOf f.1=i:=by
  have:=xK _ w i (by simpa using d);simpa [c] using this
 have e1:((i,f.2):Nat × Fd)=cV (λb=>(fs.map Prod.fst).idxOf b) f:=by simp [cV,o]
 have m:∀ g,g∈fs->(fs.map Prod.fst).idxOf g.1=(fs.map Prod.fst).idxOf f.1->g.1=f.1:=λg q h=>CD fs _ _ (iJ q) e h;unfold fq;rw [e1,<- xL fs w,Ur _ fs i f m];cases A:dL fs i f with
 | dZ s=>
  simp only [Ek.re];congr 1;simp [cJ,cV,ry]
 | ok gs=>
  simp only [Ek.re];have a:=(El fs gs i f d c A);have z:(cV (λb=>(fs.map Prod.fst).idxOf b) f::aO [(cV (λb=>(fs.map Prod.fst).idxOf b) f).2.nm] (gs.map (cV λb=>(fs.map Prod.fst).idxOf b)))=(f::aO [f.2.nm] gs).map (cV λb=>(fs.map Prod.fst).idxOf b):=by
   rw [fL];congr 1;exact uM _ gs [f.2.nm]
  have p:(cV (λb=>(fs.map Prod.fst).idxOf b) f::aO [f.2.nm] (gs.map (cV λb=>(fs.map Prod.fst).idxOf b)))=(f::aO [f.2.nm] gs).map (cV λb=>(fs.map Prod.fst).idxOf b):=z;have D:((f::aO [f.2.nm] gs).map (cV λb=>(fs.map Prod.fst).idxOf b)).map (λx=>x.1)=((f::aO [f.2.nm] gs).map λx=>x.1).map (λb=>(fs.map Prod.fst).idxOf b):=by
   rw [fM,fM];rfl
  rw [p,D,yS]
  ·congr 1
   ·simp [cV,ry]
   ·simp [cJ,cV,ry]
  ·intro k C g q h;have r:k∈fs.map Prod.fst:=by
    obtain ⟨x,j,rfl⟩:=bU.1 C;rcases bQ.1 j with rfl|j
    ·exact e
    ·exact iJ (a x (mX _ _ x j))
   exact CD fs _ _ (iJ (a g q)) r h
 where
 El (fs gs:List (Nat × Fd)) (at_:Nat) (f:Nat × Fd) (E:at_<G fs) (H:fs[at_]=f) (h:dL fs at_ f=.ok gs):∀ x,x∈gs->x∈fs:=by
  have t:=Ak fs at_ f;unfold dL jW at h;generalize (bY fs at_ f).1=f1 at *;generalize (bY fs at_ f).2=u at *;cases v:kT f.2.p f1 with
  | none=>
   rw [v] at h;cases h;exact t
  | some l=>
   rw [v] at h;simp only at h;split at h
   ·cases h;exact t
   ·cases n:dB f ((f1.drop u).take (l+1 - u)) [] [] [] with
    | dZ s=>rw [n] at h;cases h
    | ok st mv=>
     rw [n] at h;cases h;intro x j;refine t x (wZ (λy B=>?_) x j);have:=qT _ _ _ _ _ _ _ n y B;simp at this;exact lD (lS this)
end Go.Proofs.YtihgojcfpnhelaaGreatDoor
