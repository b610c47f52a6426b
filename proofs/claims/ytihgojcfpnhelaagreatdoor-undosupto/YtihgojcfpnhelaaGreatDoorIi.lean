import Derived.Test.YtihgojcfpnhelaaGreatDoorHl
set_option maxRecDepth 100000
set_option maxHeartbeats 4000000
set_option linter.all false
namespace Go.Proofs.YtihgojcfpnhelaaGreatDoor
open Go renaming World->zW,Value->zV,Calls->zC,Addr->zD
open Go.RowKit Go.Proofs.Tryz
open List renaming length→G
def K3 (e c cn:Nat) (x:By) (k n er:Int) (w:zW) (Q:w.cell? ⟨c,0,none⟩=some (zG x)) (P:c<w.heap.size)
  (E:∀ W,zB w W->zC prog 102 #[zJ e,zG x] W λr w'=>r=.returned (.tuple #[.agg #[zI k,zI n],zI er])/\zB W w') :
  zC prog 70 #[zJ e,.agg #[zI 9,zS c 1 cn,zI 0,zG [],zI 0,zN]] w λr w'=>r=.returned (.agg #[zI er,zI 0,zG [],zN,zI k,zI n])/\zB w w':=by
 have K:=I E;have O:c<w.heap.size+1:=ae;have N:c<w.heap.size+1+1:=ae;clear E;go_in;have z:=I (K.o (((w.alloc (.cells #[zI 9,zS c 1 cn,zI 0,zG [],zI 0,zN] 97)).alloc (.cells #[zI 0,zI 0,zG [],zN,zI 0,zI 0] 39)).alloc (.cells #[zI 0,zI 0] 177)).drew (og _ _ _ _).drew);have M:=I (show ∀ w3,Below (((w.alloc (.cells #[zI 9,zS c 1 cn,zI 0,zG [],zI 0,zN] 97)).alloc (.cells #[zI 0,zI 0,zG [],zN,zI 0,zI 0] 39)).alloc (.cells #[zI 0,zI 0] 177)).drew.heap.size (((w.alloc (.cells #[zI 9,zS c 1 cn,zI 0,zG [],zI 0,zN] 97)).alloc (.cells #[zI 0,zI 0,zG [],zN,zI 0,zI 0] 39)).alloc (.cells #[zI 0,zI 0] 177)).drew w3->w3.heap[w.heap.size+1]?=some (.cells #[zI 0,zI 0,zG [],zN,zI 0,zI 0] 39 (0,0))/\w3.heap[w.heap.size+1+1]?=some (.cells #[zI 0,zI 0] 177 (0,0))/\zB w w3 from λw3 t=>by
  refine ⟨(t.block _ aq).t ?_,(t.block _ aq).t ?_,(og _ _ _ _).drew.t (t.m aN)⟩
  ·show (((w.alloc (.cells #[zI 9,zS c 1 cn,zI 0,zG [],zI 0,zN] 97)).alloc (.cells #[zI 0,zI 0,zG [],zN,zI 0,zI 0] 39)).alloc (.cells #[zI 0,zI 0] 177)).heap[w.heap.size+1]?=_;exact YY
  ·exact fZ w _ _ _ _)
 clear K;go_wp2_with fail
 go_region_with (first|(go_at_call 102;refine z.o.m ?_;rintro r w3 ⟨rfl,h⟩;obtain ⟨a,b,g⟩:=M.o _ h;obtain ⟨⟨j,l,m,y,q,u⟩,⟨f0,f1,f2,f3,f4,f5⟩,f⟩:=bJ a;obtain ⟨⟨A,B⟩,⟨F,G⟩,d⟩:=cq b;have C:=I g;have D:=I a;have L:=I b;clear h a b g))
 have o:=I (((C.o.setCell (p:=⟨w.heap.size+1+1,0,none⟩) Zz (zI k)).setCell (p:=⟨w.heap.size+1+1,1,none⟩) Zz (zI n)).setCell (p:=⟨w.heap.size+1,0,none⟩) vC (zI er));have a:(((w3.setCell ⟨w.heap.size+1+1,0,none⟩ (zI k)).setCell ⟨w.heap.size+1+1,1,none⟩ (zI n)).setCell ⟨w.heap.size+1,0,none⟩ (zI er)).heap[w.heap.size+1]?=some (.cells #[zI er,zI 0,zG [],zN,zI 0,zI 0] 39 (0,0)):=by
  rw [aj ((cY _ _ _ _ Zx).t ((cY _ _ _ _ Zx).t D.o))];rfl
 have b:(((w3.setCell ⟨w.heap.size+1+1,0,none⟩ (zI k)).setCell ⟨w.heap.size+1+1,1,none⟩ (zI n)).setCell ⟨w.heap.size+1,0,none⟩ (zI er)).heap[w.heap.size+1+1]?=some (.cells #[zI k,zI n] 177 (0,0)):=by
  rw [cY _ _ _ _ (by show w.heap.size+1+1≠w.heap.size+1;omega),aj (aj L.o _ _)];rfl
 clear j l m y q u f0 f1 f2 f3 f4 f5 A B F G f d;generalize (((w3.setCell ⟨w.heap.size+1+1,0,none⟩ (zI k)).setCell ⟨w.heap.size+1+1,1,none⟩ (zI n)).setCell ⟨w.heap.size+1,0,none⟩ (zI er))=R at *;obtain ⟨⟨j,l,m,y,q,u⟩,⟨f0,f1,f2,f3,f4,f5⟩,f⟩:=bJ a;obtain ⟨⟨A,B⟩,⟨F,G⟩,d⟩:=cq b;have H:w.heap.size+1≠w.heap.size+1+1:=ae;have J:w.heap.size+1+1≠w.heap.size+1:=ae;have hF:=aj (aj (aj (aj (aj (aj (aj (aj a 4 (zI k)) 5 (zI n)) 0 (zI er)) 1 (zI 0)) 2 (zG [])) 3 (zN)) 4 (zI k)) 5 (zI n);obtain ⟨⟨_,_,_,_,_,i⟩,_,_⟩:=bJ (show _=some (Obj.cells #[zI er,zI 0,zG [],zN,zI k,zI n] 39 (0,0)) from hF);have s:=I i;clear a b C D L hF i;go_wp2_with fail
 go_region
 all_goals go_wp2
 all_goals have i:=s.o
 all_goals refine aK (v:=.agg #[zI er,zI 0,zG [],zN,zI k,zI n]) (by simp [results,results70,go_sem,j,l,m,y,q,u,f,i]) gN ?_
 all_goals refine ⟨rfl,Below.drew ?_⟩
 all_goals iterate 8 refine Below.setCell ?_ vC _
 all_goals exact o.o
def P2 (e a cn:Nat) (x tx:By) (er:Int) (w:zW) (C:w.cell? ⟨a,0,none⟩=some (zG x)) (B:a<w.heap.size)
  (m:∀ W,zB w W->zC prog 103 #[zJ e,zG x] W λr w'=>r=.returned (.tuple #[zG tx,zI er])/\zB W w') :
  zC prog 70 #[zJ e,.agg #[zI 10,zS a 1 cn,zI 0,zG [],zI 0,zN]] w λr w'=>r=.returned (.agg #[zI er,zI 0,zG tx,zN,zI 0,zI 0])/\zB w w':=by
 have j:=I m;have p:a<w.heap.size+1:=ae;have s:a<w.heap.size+1+1:=ae;clear m;go_in;have f:=I (j.o ((w.alloc (.cells #[zI 10,zS a 1 cn,zI 0,zG [],zI 0,zN] 97)).alloc (.cells #[zI 0,zI 0,zG [],zN,zI 0,zI 0] 39)).drew (aY _ _ _).drew);have q:=I (show ∀ w3,Below ((w.alloc (.cells #[zI 10,zS a 1 cn,zI 0,zG [],zI 0,zN] 97)).alloc (.cells #[zI 0,zI 0,zG [],zN,zI 0,zI 0] 39)).drew.heap.size ((w.alloc (.cells #[zI 10,zS a 1 cn,zI 0,zG [],zI 0,zN] 97)).alloc (.cells #[zI 0,zI 0,zG [],zN,zI 0,zI 0] 39)).drew w3->w3.heap[w.heap.size+1]?=some (.cells #[zI 0,zI 0,zG [],zN,zI 0,zI 0] 39 (0,0))/\zB w w3 from λw3 k=>⟨(k.block _ aq).t (bc w _ _ _),(aY _ _ _).drew.t (k.m aN)⟩);clear j;go_wp2_with fail
 go_region_with (first|(go_at_call 103;refine f.o.m ?_;rintro r w3 ⟨rfl,d⟩;obtain ⟨b,c⟩:=q.o _ d;obtain ⟨⟨z,A,t,y,u,E⟩,⟨f0,f1,f2,f3,f4,f5⟩,n⟩:=bJ b;have i:=I c;have l:=I b;clear d b c))
 have hF:=aj (aj (aj (aj (aj (aj (aj (aj l.o 2 (zG tx)) 0 (zI er)) 0 (zI er)) 1 (zI 0)) 2 (zG tx)) 3 (zN)) 4 (zI 0)) 5 (zI 0);obtain ⟨⟨F0,F1,F2,F3,F4,F5⟩,_,h⟩:=bJ (show _=some (Obj.cells #[zI er,zI 0,zG tx,zN,zI 0,zI 0] 39 (0,0)) from hF);have o:=I (And.intro F0 (And.intro F1 (And.intro F2 (And.intro F3 (And.intro F4 (And.intro F5 h))))));have g:=I (show zB w ((((((((w3.setCell ⟨w.heap.size+1,2,none⟩ (zG tx)).setCell ⟨w.heap.size+1,0,none⟩ (zI er)).setCell ⟨w.heap.size+1,0,none⟩ (zI er)).setCell ⟨w.heap.size+1,1,none⟩ (zI 0)).setCell ⟨w.heap.size+1,2,none⟩ (zG tx)).setCell ⟨w.heap.size+1,3,none⟩ (zN)).setCell ⟨w.heap.size+1,4,none⟩ (zI 0)).setCell ⟨w.heap.size+1,5,none⟩ (zI 0)) from by
  iterate 8 refine Below.setCell ?_ vC _
  exact i.o)
 clear F0 F1 F2 F3 F4 F5 h hF i l;go_wp2;generalize ((((((((w3.setCell ⟨w.heap.size+1,2,none⟩ (zG tx)).setCell ⟨w.heap.size+1,0,none⟩ (zI er)).setCell ⟨w.heap.size+1,0,none⟩ (zI er)).setCell ⟨w.heap.size+1,1,none⟩ (zI 0)).setCell ⟨w.heap.size+1,2,none⟩ (zG tx)).setCell ⟨w.heap.size+1,3,none⟩ (zN)).setCell ⟨w.heap.size+1,4,none⟩ (zI 0)).setCell ⟨w.heap.size+1,5,none⟩ (zI 0))=D at *;obtain ⟨F0,F1,F2,F3,F4,F5,h⟩:=o.o;refine aK (v:=.agg #[zI er,zI 0,zG tx,zN,zI 0,zI 0]) Zr gN ?_;exact ⟨rfl,g.o⟩
end Go.Proofs.YtihgojcfpnhelaaGreatDoor
