import Derived.Test.YtihgojcfpnhelaaGreatDoorFd
set_option maxRecDepth 100000
set_option maxHeartbeats 4000000
set_option linter.all false
namespace Go.Proofs.YtihgojcfpnhelaaGreatDoor
open Go renaming World->zW,Value->zV,Calls->zC,Addr->zD
open Go.RowKit Go.Proofs.Tryz
open List renaming length→G
section
attribute [local go_sem] ap aq
variable {F w w' W w1 w2:zW} {E:List En} {c R:Nat->Nat} {T i k:Nat} {U Z O lv v:zV} {V:List Bk} {Q6:List Nat} {Y:List Yd} {nm:List By} {l:Ln} {s:By} {bn:Option zD} {cn:Nat} {a:Ab} {hi:i<G E}
def rS {n:By} (h:Dc F T c U Z O E Y V i hi s l w) {Q4:Int} {ns:List By} {t:Option Pt} (N:l.r=.ok Q4 ns t) (m:ik Q4=n) (hw:n=[118,97,108,117,101]\/n=[114,117,108,101]\/n=[108,105,115,116]\/n=[111,114,100,101,114])
  (M:∀ (f:i<G Y) W v,dE W Y[i].S Y[i].y Y[i].vb Y[i].va Y[i].d->ea W v (aI s).1->Fb (bT E[i].a l).1 Y[i].y v W) (R:(bT E[i].a l).2=E[i].a) :
  zC prog 56 #[zJ T,J i,Q s] w (Dn c w F T U Z (E.set i ⟨E[i].e,E[i].k+1,(bT E[i].a l).2⟩) V):=by
 have f:i<G Y:=(by rw [h.pl.len];exact hi);have hX:i<(E.map En.e).length:=(by rw [fy];exact hi);obtain ⟨gx,px,H,x0,Q0⟩:=h.pl.pb.KB hX;rw [kJ] at Q0;rw [fy] at H;have Tw:(i:Int)<(G E:Int):=iD.2 hi;have Ud:(0:Int)<=(i:Int):=mF _;have HB:(i:Int)<(G Y:Int):=iD.2 f;have HD:=I h.mid;have K:=I (λW=>zb (w:=W) (N▸h.lp));rw [m] at K;have u:=I (M f);have y:=I h.bs9;subst H;clear h N M m;have x:=I R;clear R;rcases hw with rfl|rfl|rfl|rfl
 all_goals
  go_in;go_wp2_with (go_at_call 20;refine mo HD.o ?_;rintro e w1 ⟨bn,cn,c1,rfl,q⟩);obtain ⟨gy,py,rfl,z,P⟩:=q.pm.pb.Fc f;have Q5:∃ o,o=fp (bT E[i].a l).1.er (bT E[i].a l).1.at_ (bT E[i].a l).1.tx bn (bT E[i].a l).1.nm.length cn (bT E[i].a l).1.kd (bT E[i].a l).1.nn:=⟨_,rfl⟩;obtain ⟨o,D⟩:=Q5;have d:=eE o z;have a:=eE o P;rw [D] at d a;simp only [fp] at d a;have HM:=I q;have g:c1 w1.heap.size=0:=rz.1 λh=>iC _ (q.pm.pb.lt _ h).2;have QV:=I g;clear q z P g D;apply I;go_wp2_with (go_at_call 36;refine mo (K.o _) ?_;rintro e w2 ⟨va,vl,vc,rfl,L,S⟩;have k:=I L;have C:=I S;clear L S);have b:=I ((HM.o.next (bI _ _)).next k.o);have j:=I (ub (w:=w1) k.o);obtain ⟨⟨r0,r1,r2,r3,r4,r5⟩,-⟩:=eC j.o;have Q6:Hid ((bT E[i].a l).1.nm.length<=1000):=I (u.o _ _ (b.o.pm.pb.y9 i f) C.o).1;have HA:=I (ut b.o f x.o (u.o _ _ (b.o.pm.pb.y9 i f) C.o));clear d a;apply I;go_wp2_with (go_at_call 84;refine mo HA.o ?_;rintro e w3 ⟨rfl,p⟩;have r:=I p;clear p);obtain ⟨⟨-,-,-,s3,-,-⟩,-⟩:=eC (r.o.row (aM _ _) j.o QV.o);have HK:=I (oB r.o y.o Q6.o);clear r0 r1 r2 r3 r4 r5;apply I;go_wp2_with fail
  go_region_with (first|(go_at_call 86;(with_reducible refine (HK.o _ (aM _ _).drew).m ?_);rintro e w4 ⟨rfl,p⟩;have QT:=I p;clear p))
  go_wp2_with fail;go_ret;exact QT.o
end
end Go.Proofs.YtihgojcfpnhelaaGreatDoor
