import Derived.Test.YtihgojcfpnhelaaGreatDoorHl
set_option maxRecDepth 100000
set_option maxHeartbeats 4000000
set_option linter.all false
namespace Go.Proofs.YtihgojcfpnhelaaGreatDoor
open Value renaming agg->zd,tuple->zp
open Obj renaming cells->zM
open Ending renaming returned->zP
open Option renaming some->A
open Go renaming World->zW,Value->zV,Calls->zC,Addr->zD
open Go.RowKit Go.Proofs.Tryz
open List renaming length→G
def K3 (e c cn:Nat) (x:By) (k n er:Int) (w:zW) (Y:w.cell? (yh c)=A (Q x)) (P:c<w.heap.size)
  (E:∀ W,zB w W->zC prog 102 #[zJ e,Q x] W λr S=>r=zP (zp #[zd #[J k,J n],J er])/\zB W S) :
  zC prog 70 #[zJ e,zd #[J 9,zS c 1 cn,J 0,Q [],J 0,zN]] w λr S=>r=zP (zd #[J er,J 0,Q [],zN,J k,J n])/\zB w S:=by
 have V:=I E;have O:c<w.heap.size+1:=(by omega);have N:c<w.heap.size+1+1:=(by omega);clear E;go_in;have z:=I (V.o (((w.alloc (zM #[J 9,zS c 1 cn,J 0,Q [],J 0,zN] 97)).alloc (zM #[J 0,J 0,Q [],zN,J 0,J 0] 39)).alloc (zM #[J 0,J 0] 177)).drew (og _ _ _ _).drew);have M:=I (show ∀ K,Below (((w.alloc (zM #[J 9,zS c 1 cn,J 0,Q [],J 0,zN] 97)).alloc (zM #[J 0,J 0,Q [],zN,J 0,J 0] 39)).alloc (zM #[J 0,J 0] 177)).drew.heap.size (((w.alloc (zM #[J 9,zS c 1 cn,J 0,Q [],J 0,zN] 97)).alloc (zM #[J 0,J 0,Q [],zN,J 0,J 0] 39)).alloc (zM #[J 0,J 0] 177)).drew K->K.heap[w.heap.size+1]?=A (zM #[J 0,J 0,Q [],zN,J 0,J 0] 39 (0,0))/\K.heap[w.heap.size+1+1]?=A (zM #[J 0,J 0] 177 (0,0))/\zB w K from λK t=>by
  refine ⟨(t.block _ (by simp)).t ?_,(t.block _ (by simp)).t ?_,(og _ _ _ _).drew.t (t.m (by simp;omega))⟩
  .show (((w.alloc (zM #[J 9,zS c 1 cn,J 0,Q [],J 0,zN] 97)).alloc (zM #[J 0,J 0,Q [],zN,J 0,J 0] 39)).alloc (zM #[J 0,J 0] 177)).heap[w.heap.size+1]?=_;rw [cj _ _ _ (by simp)];exact bc w _ _ _
  .exact fZ w _ _ _ _)
 clear V;go_wp2_with fail
 go_region_with (first|(go_at_call 102;refine z.o.m ?_;rintro r K ⟨rfl,h⟩;obtain ⟨a,b,g⟩:=M.o _ h;obtain ⟨⟨j,l,m,y,q,u⟩,⟨f0,f1,f2,f3,f4,f5⟩,f⟩:=bJ a;obtain ⟨⟨T,U⟩,⟨F,G⟩,d⟩:=cq b;have C:=I g;have D:=I a;have L:=I b;clear h a b g))
 have o:=I (((C.o.setCell (p:=yh (w.heap.size+1+1)) (by show w.heap.size<=w.heap.size+1+1;omega) (J k)).setCell (p:=X (w.heap.size+1+1) 1) (by show w.heap.size<=w.heap.size+1+1;omega) (J n)).setCell (p:=yh (w.heap.size+1)) (by show w.heap.size<=w.heap.size+1;omega) (J er));have a:(((K.setCell (yh (w.heap.size+1+1)) (J k)).setCell (X (w.heap.size+1+1) 1) (J n)).setCell (yh (w.heap.size+1)) (J er)).heap[w.heap.size+1]?=A (zM #[J er,J 0,Q [],zN,J 0,J 0] 39 (0,0)):=by
  rw [aj ((cY _ _ _ _ (by show w.heap.size+1≠w.heap.size+1+1;omega)).t ((cY _ _ _ _ (by show w.heap.size+1≠w.heap.size+1+1;omega)).t D.o))];rfl
 have b:(((K.setCell (yh (w.heap.size+1+1)) (J k)).setCell (X (w.heap.size+1+1) 1) (J n)).setCell (yh (w.heap.size+1)) (J er)).heap[w.heap.size+1+1]?=A (zM #[J k,J n] 177 (0,0)):=by
  rw [cY _ _ _ _ (by show w.heap.size+1+1≠w.heap.size+1;omega),aj (aj L.o _ _)];rfl
 clear j l m y q u f0 f1 f2 f3 f4 f5 T U F G f d;generalize (((K.setCell (yh (w.heap.size+1+1)) (J k)).setCell (X (w.heap.size+1+1) 1) (J n)).setCell (yh (w.heap.size+1)) (J er))=R at *;obtain ⟨⟨j,l,m,y,q,u⟩,⟨f0,f1,f2,f3,f4,f5⟩,f⟩:=bJ a;obtain ⟨⟨T,U⟩,⟨F,G⟩,d⟩:=cq b;have H:w.heap.size+1≠w.heap.size+1+1:=(by omega);have Z:w.heap.size+1+1≠w.heap.size+1:=(by omega);have hF:=aj (aj (aj (aj (aj (aj (aj (aj a 4 (J k)) 5 (J n)) 0 (J er)) 1 (J 0)) 2 (Q [])) 3 (zN)) 4 (J k)) 5 (J n);obtain ⟨⟨_,_,_,_,_,i⟩,_,_⟩:=bJ (show _=A (Obj.cells #[J er,J 0,Q [],zN,J k,J n] 39 (0,0)) from hF);have s:=I i;clear a b C D L hF i;go_wp2_with fail
 go_region
 all_goals go_wp2
 all_goals have i:=s.o
 all_goals refine aK (v:=zd #[J er,J 0,Q [],zN,J k,J n]) (by simp [results,results70,go_sem,j,l,m,y,q,u,f,i]) (by simp [go_sem]) ?_
 all_goals refine ⟨rfl,Below.drew ?_⟩
 all_goals iterate 8 refine Below.setCell ?_ (by show w.heap.size<=w.heap.size+1;omega) _
 all_goals exact o.o
def P2 (e a cn:Nat) (x tx:By) (er:Int) (w:zW) (C:w.cell? (yh a)=A (Q x)) (Q4:a<w.heap.size)
  (m:∀ W,zB w W->zC prog 103 #[zJ e,Q x] W λr P=>r=zP (zp #[Q tx,J er])/\zB W P) :
  zC prog 70 #[zJ e,zd #[J 10,zS a 1 cn,J 0,Q [],J 0,zN]] w λr P=>r=zP (zd #[J er,J 0,Q tx,zN,J 0,J 0])/\zB w P:=by
 have j:=I m;have p:a<w.heap.size+1:=(by omega);have s:a<w.heap.size+1+1:=(by omega);clear m;go_in;have f:=I (j.o ((w.alloc (zM #[J 10,zS a 1 cn,J 0,Q [],J 0,zN] 97)).alloc (zM #[J 0,J 0,Q [],zN,J 0,J 0] 39)).drew (aY _ _ _).drew);have q:=I (show ∀ F,Below ((w.alloc (zM #[J 10,zS a 1 cn,J 0,Q [],J 0,zN] 97)).alloc (zM #[J 0,J 0,Q [],zN,J 0,J 0] 39)).drew.heap.size ((w.alloc (zM #[J 10,zS a 1 cn,J 0,Q [],J 0,zN] 97)).alloc (zM #[J 0,J 0,Q [],zN,J 0,J 0] 39)).drew F->F.heap[w.heap.size+1]?=A (zM #[J 0,J 0,Q [],zN,J 0,J 0] 39 (0,0))/\zB w F from λF k=>⟨(k.block _ (by simp)).t (bc w _ _ _),(aY _ _ _).drew.t (k.m (by simp;omega))⟩);clear j;go_wp2_with fail
 go_region_with (first|(go_at_call 103;refine f.o.m ?_;rintro r F ⟨rfl,d⟩;obtain ⟨b,c⟩:=q.o _ d;obtain ⟨⟨z,R,t,y,u,E⟩,⟨f0,f1,f2,f3,f4,f5⟩,n⟩:=bJ b;have i:=I c;have l:=I b;clear d b c))
 have hF:=aj (aj (aj (aj (aj (aj (aj (aj l.o 2 (Q tx)) 0 (J er)) 0 (J er)) 1 (J 0)) 2 (Q tx)) 3 (zN)) 4 (J 0)) 5 (J 0);obtain ⟨⟨H,K,L,M,N,O⟩,_,h⟩:=bJ (show _=A (Obj.cells #[J er,J 0,Q tx,zN,J 0,J 0] 39 (0,0)) from hF);have o:=I (And.intro H (And.intro K (And.intro L (And.intro M (And.intro N (And.intro O h))))));have g:=I (show zB w ((((((((F.setCell (X (w.heap.size+1) 2) (Q tx)).setCell (yh (w.heap.size+1)) (J er)).setCell (yh (w.heap.size+1)) (J er)).setCell (X (w.heap.size+1) 1) (J 0)).setCell (X (w.heap.size+1) 2) (Q tx)).setCell (X (w.heap.size+1) 3) (zN)).setCell (X (w.heap.size+1) 4) (J 0)).setCell (X (w.heap.size+1) 5) (J 0)) by
  iterate 8 refine Below.setCell ?_ (by show w.heap.size<=w.heap.size+1;omega) _
  exact i.o)
 clear H K L M N O h hF i l;go_wp2;generalize ((((((((F.setCell (X (w.heap.size+1) 2) (Q tx)).setCell (yh (w.heap.size+1)) (J er)).setCell (yh (w.heap.size+1)) (J er)).setCell (X (w.heap.size+1) 1) (J 0)).setCell (X (w.heap.size+1) 2) (Q tx)).setCell (X (w.heap.size+1) 3) (zN)).setCell (X (w.heap.size+1) 4) (J 0)).setCell (X (w.heap.size+1) 5) (J 0))=D at *;obtain ⟨H,K,L,M,N,O,h⟩:=o.o;refine aK (v:=zd #[J er,J 0,Q tx,zN,J 0,J 0]) (by simp [results,results70,go_sem,H,K,L,M,N,O]) (by simp [go_sem]) ?_;exact ⟨rfl,g.o⟩
end Go.Proofs.YtihgojcfpnhelaaGreatDoor
