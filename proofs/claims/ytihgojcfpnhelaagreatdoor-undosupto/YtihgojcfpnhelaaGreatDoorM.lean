import Derived.Test.YtihgojcfpnhelaaGreatDoorJb
import Derived.Test.YtihgojcfpnhelaaGreatDoorShelf
set_option maxRecDepth 100000
set_option maxHeartbeats 4000000
set_option linter.all false
namespace Go.Proofs.YtihgojcfpnhelaaGreatDoor
open Value renaming slice->B,tuple->zp,bool->zF
open Obj renaming cells->zM
open Ending renaming returned->zP
open Option renaming some->A
open Or renaming inl->zR,inr->zZ
open Go renaming World->zW,Value->zV,Calls->zC,Addr->zD
open Go.RowKit Go.Proofs.Tryz
open List renaming length→G
section
attribute [local go_sem] ap aq
def OY (o:Nat) (h:o<=7):Lib.decDigits o=[48+UInt8.ofNat o]:=by rcases (show o=0\/o=1\/o=2\/o=3\/o=4\/o=5\/o=6\/o=7 by omega) with h|h|h|h|h|h|h|h<;>subst h<;>decide +kernel
def fG (k:UInt8) (n:Int) (w:zW) (b:0<=n) (c:n<=7) :
  zC prog 112 #[.string ⟨#[k]⟩,J n] w λe C=>e=zP (Q (aH k n.toNat))/\w=C:=by
 obtain ⟨o,rfl⟩:=Int.eq_ofNat_of_zero_le b;rw [im];have a:=I (OY o (by omega));go_in;go_wp2_with (go_at_call 50;refine (strconv_Itoa_small o (by omega) _).m ?_;rintro e C ⟨rfl,rfl⟩;rw [a.o]);go_ret;exact ⟨rfl,rfl⟩
def ab (l:List By):List zV:=l.map λx=>Q x
def Own (w:zW) (Q4:Nat) (v:zV) (l:List By):Prop:=w.ownsRow Q4 9 1 v (G l) (ab l)
def nz (w:zW) (l:List By) (a:G l<=1000):Own (w.alloc (zM (ab l).toArray 9)) w.heap.size (zS w.heap.size (G l) (G l)) l:=by
 have h:=World.ownsRow_lit (base:=w.heap.size) (e:=9) (size:=1) w (ab l).toArray (G l) (aG _) (by unfold maxLen;omega) (by simp [ab]);exact h
def yU:(prog.info? 9).map (λi=>(i.zero,i.size,i.bytes))=A (A (Q []),1,16):=by kernel_rfl
def Hk (t:By) (k:UInt8) (n:Int) (w:zW) (c:0<=n) (d:n<=6) :
  zC prog 114 #[Q t,.string ⟨#[k]⟩,J n] w λe C=>∃ v,e=zP v/\Own C w.heap.size v (eT t k n.toNat)/\zB w C:=by
 obtain ⟨o,rfl⟩:=Int.eq_ofNat_of_zero_le c;rw [im];by_cases b:6<=o
 .have a:=I (show eT t k o=[fj] by simp [eT,b]);go_in;go_wp2;go_ret;exact ⟨_,rfl,by rw [a.o];exact nz w [fj] (by decide),(aM _ _).alloc (aG _) _⟩
 .have a:=I (show eT t k o=[t,aH k (o+1)] by simp [eT,b]);go_in;go_wp2_with (go_at_call 112;refine (fG k ((o:Int)+1) _ (by omega) (by omega)).m ?_;rintro e C ⟨rfl,rfl⟩;rw [show ((o:Int)+1).toNat=o+1 by omega]);go_ret;exact ⟨_,rfl,by rw [a.o];exact nz w [t,aH k (o+1)] (by simp),(aM _ _).alloc (aG _) _⟩
def Ry:Option UInt8->By|none=>[]|some g=>[g]
def xM (t:By) (b:List By) (a:zD) (c:Nat) (part:UInt8) (d:Option UInt8) (n:Int) (w:zW) (Q4:0<=n) (E:n<=6) (p:G b<=100)
  (r:∀ j (h:j<G b),w.cell? (a.add j)=A (Q (b[j]))) :
  zC prog 113 #[Q t,B (A a) (G b) c,.string ⟨#[part]⟩,Q (Ry d),J n] w λe F=>∃ v,e=zP v/\Own F w.heap.size v (gz t b part d n.toNat)/\zB w F:=by
 obtain ⟨o,rfl⟩:=Int.eq_ofNat_of_zero_le Q4;rw [im];cases K:b5 t b
 .have l:=I (show gz t b part d o=[] by simp [gz,K]);go_in;go_wp2_with (go_at_call 77;refine (xz t b a c _ p r).m ?_;rintro e F ⟨rfl,rfl⟩);go_ret;exact ⟨_,rfl,by rw [l.o];exact eW _ _ _ _,aM _ _⟩
 .match d with
  | none=>
   have l:=I (show gz t b part none o=[t,aH part o] by simp [gz,K]);go_in;go_wp2_with (first|(go_at_call 77;refine (xz t b a c _ p r).m ?_;rintro e F ⟨rfl,rfl⟩)|(go_at_call 112;refine (fG part (o:Int) _ (by omega) (by omega)).m ?_;rintro e F ⟨rfl,rfl⟩;rw [im]));go_ret;exact ⟨_,rfl,by rw [l.o];exact nz w [t,aH part o] (by simp),(aM _ _).alloc (aG _) _⟩
  | some g=>
   have l:=I (show gz t b part (A g) o=[t,aH part o,aH g o] by simp [gz,K]);obtain ⟨z,D,m,q,s⟩:=fe yU;go_in;have y:Ry (A g)=[g]:=rfl;rw [y];clear y;have M:w.heap.size<=w.heap.size+1+1:=(by omega);go_wp2_with (first|(go_at_call 77;refine (xz t b a c _ p r).m ?_;rintro e F ⟨rfl,rfl⟩)|(go_at_call 112;refine (fG _ (o:Int) _ (by omega) (by omega)).m ?_;rintro e F ⟨rfl,rfl⟩;rw [im])|(at_builtin;refine km _ rfl (.tmp 25) (.tmp 29) 24 rfl w.heap.size 9 z (Q []) 1 16 underlying24 D m q s rfl (by decide) _ 2 (ab [t,aH part o]) rfl ((nz w [t,aH part o] (by simp)).alloc _) (yh (w.heap.size+1)) 1 1 [Q (aH g o)] rfl rfl ?c1 ?c2 ?c3 ?c4 ?c5 ?_))
   case c1=>
    intro j u H
    match j,H with
    | 0,H=>simp at H;subst H;simp [Addr.add]
   case c2=>intro u x;simp at x;subst x;rfl
   case c3=>decide
   case c4=>decide
   case c5=>simp;omega
   intro L N f i _;go_wp2;go_ret;exact ⟨L,rfl,by rw [l.o];exact f,((bZ _).alloc (by simp) _).grown i (by simp;omega) (λk C=>by simp [Value.ownBlock] at C;omega)⟩
def Own.m {w:zW} {Q4 c:Nat} {v:zV} {l:List By} (h:Own w Q4 v l) (f:c<=Q4):Own w c v l:=by
 refine ⟨h.1,?_⟩;rcases h.2 with e|⟨g,a,b,d,i,r⟩
 .exact zR e
 .exact zZ ⟨g,a,b,d,by omega,r⟩
def gD (a w:zW) (l:List By) (c:G l<=1000) (b:zB a w) :
  Own (w.alloc (zM (ab l).toArray 9)) a.heap.size (zS w.heap.size (G l) (G l)) l/\zB a (w.alloc (zM (ab l).toArray 9)):=
 ⟨(nz w l c).m b.size,b.alloc b.size _⟩
def df (w:zW) (L:List By) (e:Ending) (w':zW):Prop:=∃ v,e=zP v/\Own w' w.heap.size v L/\zB w w'
def Do (c:UInt8) (r:By) (o:Nat) (w:zW) (d:o<=6) (b:dm (c.toNat:Int)=true) :
  zC prog 115 #[Q (c::r),J o] w (df w [c::r]):=by
 unfold df;go_in;go_wp2_with (first|(go_at_call 112;refine (fG _ ((o:Int)+1) _ (by omega) (by omega)).m ?_;rintro e C ⟨rfl,rfl⟩;rw [show ((o:Int)+1).toNat=o+1 by omega])|(go_at_call 76;refine (dD _ _).m ?_;rintro e D ⟨rfl,a⟩)|(go_at_call 109;refine (bR (c.toNat:Int) _).m ?_;rintro e C ⟨rfl,rfl⟩));go_ret;exact ⟨_,rfl,gD w _ [c::r] (by simp) (by assumption)⟩
def DE (c:UInt8) (r:By) (o:Nat) (w:zW) (f:o<=6) (d:dm (c.toNat:Int)=false) (b:((c::r:By) == [116,114,117,101])=true) :
  zC prog 115 #[Q (c::r),J o] w (df w [c::r]):=by
 unfold df;go_in;go_wp2_with (first|(go_at_call 112;refine (fG _ ((o:Int)+1) _ (by omega) (by omega)).m ?_;rintro e C ⟨rfl,rfl⟩;rw [show ((o:Int)+1).toNat=o+1 by omega])|(go_at_call 76;refine (dD _ _).m ?_;rintro e D ⟨rfl,a⟩)|(go_at_call 109;refine (bR (c.toNat:Int) _).m ?_;rintro e C ⟨rfl,rfl⟩));go_ret;exact ⟨_,rfl,gD w _ [c::r] (by simp) (by assumption)⟩
def DH (c:UInt8) (r:By) (o:Nat) (w:zW) (f:o<=6) (d:dm (c.toNat:Int)=false) (b:((c::r:By) == [116,114,117,101])=false) (hF:((c::r:By) == [102,97,108,115,101])=true) :
  zC prog 115 #[Q (c::r),J o] w (df w [c::r]):=by
 unfold df;go_in;go_wp2_with (first|(go_at_call 112;refine (fG _ ((o:Int)+1) _ (by omega) (by omega)).m ?_;rintro e C ⟨rfl,rfl⟩;rw [show ((o:Int)+1).toNat=o+1 by omega])|(go_at_call 76;refine (dD _ _).m ?_;rintro e D ⟨rfl,a⟩)|(go_at_call 109;refine (bR (c.toNat:Int) _).m ?_;rintro e C ⟨rfl,rfl⟩));go_ret;exact ⟨_,rfl,gD w _ [c::r] (by simp) (by assumption)⟩
def DP (c:UInt8) (r:By) (o:Nat) (w:zW) (g:o<=6) (d:dm (c.toNat:Int)=false) (b:((c::r:By) == [116,114,117,101])=false) (hF:((c::r:By) == [102,97,108,115,101])=false) (f:bm (c::r)=true) :
  zC prog 115 #[Q (c::r),J o] w (df w [c::r]):=by
 unfold df;go_in;go_wp2_with (first|(go_at_call 112;refine (fG _ ((o:Int)+1) _ (by omega) (by omega)).m ?_;rintro e C ⟨rfl,rfl⟩;rw [show ((o:Int)+1).toNat=o+1 by omega])|(go_at_call 76;refine (dD _ _).m ?_;rintro e D ⟨rfl,a⟩)|(go_at_call 109;refine (bR (c.toNat:Int) _).m ?_;rintro e C ⟨rfl,rfl⟩));go_ret;exact ⟨_,rfl,gD w _ [c::r] (by simp) (by assumption)⟩
def DQ (c:UInt8) (r:By) (o:Nat) (w:zW) (j:o<=6) (g:dm (c.toNat:Int)=false) (i:((c::r:By) == [116,114,117,101])=false) (hF:((c::r:By) == [102,97,108,115,101])=false) (h:bm (c::r)=false) (f:((c::r:By) == [45])=true) :
  zC prog 115 #[Q (c::r),J o] w (df w (eT (c::r) 65 o)):=by
 unfold df;go_in;go_wp2_with (first|(go_at_call 112;refine (fG _ ((o:Int)+1) _ (by omega) (by omega)).m ?_;rintro e C ⟨rfl,rfl⟩;rw [show ((o:Int)+1).toNat=o+1 by omega])|(go_at_call 76;refine (dD _ _).m ?_;rintro e E ⟨rfl,a⟩)|(go_at_call 109;refine (bR (c.toNat:Int) _).m ?_;rintro e C ⟨rfl,rfl⟩)|(go_at_call 114;refine (Hk (c::r) 65 (o:Int) _ (by omega) (by omega)).m ?_;rintro e F ⟨D,rfl,b,d⟩;rw [im] at b));go_ret;exact ⟨_,rfl,b.m a.size,a.t (d.m a.size)⟩
def DS (c:UInt8) (r:By) (o:Nat) (w:zW) (i:o<=6) (f:dm (c.toNat:Int)=false) (h:((c::r:By) == [116,114,117,101])=false) (hF:((c::r:By) == [102,97,108,115,101])=false) (g:bm (c::r)=false) (b:((c::r:By) == [45])=false) (hO:((c::r:By) == [40])=false) (d:((c::r:By) == [105,102])=true) (j:6<=o) :
  zC prog 115 #[Q (c::r),J o] w (df w [[105,102],jX]):=by
 unfold df;go_in;go_wp2_with (first|(go_at_call 112;refine (fG _ ((o:Int)+1) _ (by omega) (by omega)).m ?_;rintro e C ⟨rfl,rfl⟩;rw [show ((o:Int)+1).toNat=o+1 by omega])|(go_at_call 76;refine (dD _ _).m ?_;rintro e D ⟨rfl,a⟩)|(go_at_call 109;refine (bR (c.toNat:Int) _).m ?_;rintro e C ⟨rfl,rfl⟩));go_ret;exact ⟨_,rfl,gD w _ [[105,102],jX] (by simp) (by assumption)⟩
def DX (c:UInt8) (r:By) (o:Nat) (w:zW) (i:o<=6) (f:dm (c.toNat:Int)=false) (h:((c::r:By) == [116,114,117,101])=false) (hF:((c::r:By) == [102,97,108,115,101])=false) (g:bm (c::r)=false) (b:((c::r:By) == [45])=false) (hO:((c::r:By) == [40])=false) (d:((c::r:By) == [105,102])=true) (j:o<6) :
  zC prog 115 #[Q (c::r),J o] w (df w [[105,102],[40],aH 82 (o+1),[44],aH 82 (o+1),[44],aH 82 (o+1),[41]]):=by
 unfold df;go_in;go_wp2_with (first|(go_at_call 112;refine (fG _ ((o:Int)+1) _ (by omega) (by omega)).m ?_;rintro e C ⟨rfl,rfl⟩;rw [show ((o:Int)+1).toNat=o+1 by omega])|(go_at_call 76;refine (dD _ _).m ?_;rintro e D ⟨rfl,a⟩)|(go_at_call 109;refine (bR (c.toNat:Int) _).m ?_;rintro e C ⟨rfl,rfl⟩));go_ret;exact ⟨_,rfl,gD w _ [[105,102],[40],aH 82 (o+1),[44],aH 82 (o+1),[44],aH 82 (o+1),[41]] (by simp) (by assumption)⟩
def DY (c:UInt8) (r:By) (o:Nat) (w:zW) (i:o<=6) (g:dm (c.toNat:Int)=false) (b:((c::r:By) == [116,114,117,101])=false) (hF:((c::r:By) == [102,97,108,115,101])=false) (h:bm (c::r)=false) (d:((c::r:By) == [45])=false) (hO:((c::r:By) == [40])=false) (f:((c::r:By) == [105,102])=false) :
  zC prog 115 #[Q (c::r),J o] w (df w [iF]):=by
 unfold df;go_in;go_wp2_with (first|(go_at_call 112;refine (fG _ ((o:Int)+1) _ (by omega) (by omega)).m ?_;rintro e C ⟨rfl,rfl⟩;rw [show ((o:Int)+1).toNat=o+1 by omega])|(go_at_call 76;refine (dD _ _).m ?_;rintro e D ⟨rfl,a⟩)|(go_at_call 109;refine (bR (c.toNat:Int) _).m ?_;rintro e C ⟨rfl,rfl⟩));go_ret;exact ⟨_,rfl,gD w _ [iF] (by simp) (by assumption)⟩
def D0 (c:UInt8) (r:By) (o:Nat) (w:zW) (Q4:o<=6) (z:dm (c.toNat:Int)=false) (C:((c::r:By) == [116,114,117,101])=false) (hF:((c::r:By) == [102,97,108,115,101])=false) (Q0:bm (c::r)=false) (y:((c::r:By) == [45])=false) (hO:((c::r:By) == [40])=true) :
  zC prog 115 #[Q (c::r),J o] w (df w (eT (c::r) 82 o++[[41]])):=by
 unfold df;obtain ⟨p,x,h,i,m⟩:=fe yU;go_in;go_wp2_with (first|(go_at_call 112;refine (fG _ ((o:Int)+1) _ (by omega) (by omega)).m ?_;rintro e L ⟨rfl,rfl⟩;rw [show ((o:Int)+1).toNat=o+1 by omega])|(go_at_call 76;refine (dD _ _).m ?_;rintro e F ⟨rfl,a⟩)|(go_at_call 109;refine (bR (c.toNat:Int) _).m ?_;rintro e L ⟨rfl,rfl⟩)|(go_at_call 114;refine mo (Hk (c::r) 82 (o:Int) _ (by omega) (by omega)) ?_;rintro e M ⟨K,rfl,b,g⟩;rw [im] at b));apply I;have q:(eT (c::r) 82 o).length<=2:=by unfold eT;split<;>simp
 have t:=g.size;have s:=a.size;go_wp2_with (at_builtin;refine km _ rfl (.tmp 44) (.tmp 45) 24 rfl F.heap.size 9 p (Q []) 1 16 underlying24 x h i m rfl (by decide) K (eT (c::r) 82 o).length (ab (eT (c::r) 82 o)) rfl (b.alloc _) (yh M.heap.size) 1 1 [.string ⟨#[41]⟩] rfl rfl ?c1 ?c2 ?c3 ?c4 ?c5 ?_)
 case c1=>
  intro j u D
  match j,D with
  | 0,D=>simp at D;subst D;simp [Addr.add]
 case c2=>intro u n;simp at n;subst n;rfl
 case c3=>unfold maxLen;omega
 case c4=>omega
 case c5=>simp;omega
 intro E H d f _;go_wp2;go_ret;have l:Own H F.heap.size E (eT (c::r) 82 o++[[41]]):=by
  show H.ownsRow _ 9 1 E _ _;rw [b6];simpa [ab] using d
 exact ⟨_,rfl,l.m a.size,(a.t (g.m a.size)).t (((aM _ _).alloc (by omega) _).grown f (by simp;omega) (λk v=>by have:=(fJ b k v).1;have:=a.size;omega))⟩
def D4 (o:Nat) (w:zW) (b:o<=6) :
  zC prog 115 #[Q ([]:By),J o] w (df w [iF]):=by
 unfold df;go_in;go_wp2_with (first|(go_at_call 112;refine (fG _ ((o:Int)+1) _ (by omega) (by omega)).m ?_;rintro e C ⟨rfl,rfl⟩;rw [show ((o:Int)+1).toNat=o+1 by omega])|(go_at_call 76;refine (dD [] _).m ?_;rintro e D ⟨rfl,a⟩));go_ret;exact ⟨_,rfl,gD w _ [iF] (by simp) (by assumption)⟩
def Ec (t:By) (n:Int) (w:zW) (u:0<=n) (x:n<=6) :
  zC prog 115 #[Q t,J n] w λe E=>∃ v,e=zP v/\Own E w.heap.size v (ey t n.toNat)/\zB w E:=by
 obtain ⟨o,rfl⟩:=Int.eq_ofNat_of_zero_le u;rw [im];show zC prog 115 _ w (df w (ey t o));have g:o<=6:=by omega
 match t with
 | []=>exact D4 o w g
 | c::r=>
  have q:ae (c::r)=dm (c.toNat:Int):=rfl;by_cases C:dm (c.toNat:Int)=true
  .rw [show ey (c::r) o=[c::r] by simp [ey,q,C]];exact Do c r o w g C
  by_cases k:(c::r:By)=[116,114,117,101]
  .rw [show ey (c::r) o=[c::r] by simp [ey,k]];exact DE c r o w g (by simpa using C) (by simp [k])
  by_cases hF:(c::r:By)=[102,97,108,115,101]
  .rw [show ey (c::r) o=[c::r] by simp [ey,hF]];exact DH c r o w g (by simpa using C) (bo.2 k) (by simp [hF])
  by_cases m:bm (c::r)=true
  .rw [show ey (c::r) o=[c::r] by simp [ey,m]];exact DP c r o w g (by simpa using C) (bo.2 k) (bo.2 hF) m
  have a:dm (c.toNat:Int)=false:=(by simpa using C);have f:((c::r:By) == [116,114,117,101])=false:=bo.2 k;have d:((c::r:By) == [102,97,108,115,101])=false:=bo.2 hF;have b:bm (c::r)=false:=by simpa using m
  have s:ey (c::r) o=(if (c::r:By)=[45] then eT (c::r) 65 o
    else if (c::r:By)=[40] then eT (c::r) 82 o++[[41]]
    else if (c::r:By)=[105,102]&&decide (6<=o) then [[105,102],jX]
    else if (c::r:By)=[105,102] then [[105,102],[40],aH 82 (o+1),[44],aH 82 (o+1),[44],aH 82 (o+1),[41]]
    else [iF]):=by
   unfold ey;rw [aA (by simp),aA (by rw [q,a,b];simp [k,hF])]
  rw [s];by_cases l:(c::r:By)=[45]
  .rw [aB l];exact DQ c r o w g a f d b (by simp [l])
  rw [aA l];have h:((c::r:By) == [45])=false:=bo.2 l;by_cases D:(c::r:By)=[40]
  .rw [aB D];exact D0 c r o w g a f d b h (by simp [D])
  rw [aA D];have i:((c::r:By) == [40])=false:=bo.2 D;by_cases j:(c::r:By)=[105,102]
  .by_cases p:6<=o
   .rw [aB (by simp [j,p])];exact DS c r o w g a f d b h i (by simp [j]) p
   .rw [aA (by simp [p]),aB j];exact DX c r o w g a f d b h i (by simp [j]) (by omega)
  .rw [aA (by simp [j]),aA j];exact DY c r o w g a f d b h i (bo.2 j)
end
section
attribute [local go_sem] ap aq aE
def KC (o:Nat) (h:o<=7):Lib.atoi [48+UInt8.ofNat o]=A (o:Int):=by rcases (show o=0\/o=1\/o=2\/o=3\/o=4\/o=5\/o=6\/o=7 by omega) with h|h|h|h|h|h|h|h<;>subst h<;>decide +kernel
def kX (o:Nat) (w:zW) (h:o<=7) :
  zC prog 111 #[.string ⟨#[48+UInt8.ofNat o]⟩] w λe C=>e=zP (zp #[J o,.nilIface])/\zB w C:=
 (strconv_Atoi ⟨#[48+UInt8.ofNat o]⟩ (o:Int) (by show 1<=18;omega) (KC o h) w).m λe C a=>⟨a.1,by
  obtain ⟨t,rfl⟩:=a.2;exact Lib.bytesWorld_below _ _ _⟩
def cB (w:zW) (L:List By) (e:Ending) (w':zW):Prop:=∃ v,e=zP (zp #[v,zF true])/\Own w' w.heap.size v L/\zB w w'
def ue (c:UInt8) (r t:By) (w:zW) (C:c≠63) :
  zC prog 75 #[Q (c::r),Q t] w λe D=>e=zP (zp #[zN,zF false])/\w=D:=by
 have a:((c.toNat:Int) == 63)=false:=(by simp only [bo];intro h;apply C;apply UInt8.toNat_inj.1;simp;omega);have b:((c.toNat:Int) != 63)=true:=by simp [bne,a]
 go_in;go_wp2;go_ret2;exact ⟨rfl,rfl⟩
def KD (w:zW) :
  zC prog 75 #[Q jX,Q ([40]:By)] w (cB w [fj]):=by
 unfold cB jX;go_in;go_wp2;go_ret2;exact ⟨_,rfl,gD w w [fj] (by decide) (aM _ _)⟩
def KE (t:By) (w:zW) (a:(t == [40])=false) :
  zC prog 75 #[Q jX,Q t] w (cB w [iF]):=by
 unfold cB jX;go_in;go_wp2;go_ret2;exact ⟨_,rfl,gD w w [iF] (by decide) (aM _ _)⟩
def Ei (o:Nat) (t:By) (w:zW) (b:o<=6) :
  zC prog 75 #[Q (aH 82 o),Q t] w (cB w [aH 80 o,aH 114 o]):=by
 unfold cB;rw [show aH 82 o=[63,82,48+UInt8.ofNat o] from rfl];go_in;go_wp2_with (first|(go_at_call 111;refine (kX o _ (by omega)).m ?_;rintro e D ⟨rfl,a⟩)|(go_at_call 112;refine (fG _ (o:Int) _ (by omega) (by omega)).m ?_;rintro e C ⟨rfl,rfl⟩;rw [im]));go_ret2;exact ⟨_,rfl,gD w _ [aH 80 o,aH 114 o] (by simp) (by assumption)⟩
def Ej (o:Nat) (t:By) (w:zW) (b:o<=6) :
  zC prog 75 #[Q (aH 80 o),Q t] w (cB w [aH 84 o,aH 112 o]):=by
 unfold cB;rw [show aH 80 o=[63,80,48+UInt8.ofNat o] from rfl];go_in;go_wp2_with (first|(go_at_call 111;refine (kX o _ (by omega)).m ?_;rintro e D ⟨rfl,a⟩)|(go_at_call 112;refine (fG _ (o:Int) _ (by omega) (by omega)).m ?_;rintro e C ⟨rfl,rfl⟩;rw [im]));go_ret2;exact ⟨_,rfl,gD w _ [aH 84 o,aH 112 o] (by simp) (by assumption)⟩
def ED (o:Nat) (t:By) (w:zW) (b:o<=6) :
  zC prog 75 #[Q (aH 83 o),Q t] w (cB w [aH 77 o,aH 115 o]):=by
 unfold cB;rw [show aH 83 o=[63,83,48+UInt8.ofNat o] from rfl];go_in;go_wp2_with (first|(go_at_call 111;refine (kX o _ (by omega)).m ?_;rintro e D ⟨rfl,a⟩)|(go_at_call 112;refine (fG _ (o:Int) _ (by omega) (by omega)).m ?_;rintro e C ⟨rfl,rfl⟩;rw [im]));go_ret2;exact ⟨_,rfl,gD w _ [aH 77 o,aH 115 o] (by simp) (by assumption)⟩
def EE (o:Nat) (t:By) (w:zW) (b:o<=6) :
  zC prog 75 #[Q (aH 77 o),Q t] w (cB w [aH 65 o,aH 109 o]):=by
 unfold cB;rw [show aH 77 o=[63,77,48+UInt8.ofNat o] from rfl];go_in;go_wp2_with (first|(go_at_call 111;refine (kX o _ (by omega)).m ?_;rintro e D ⟨rfl,a⟩)|(go_at_call 112;refine (fG _ (o:Int) _ (by omega) (by omega)).m ?_;rintro e C ⟨rfl,rfl⟩;rw [im]));go_ret2;exact ⟨_,rfl,gD w _ [aH 65 o,aH 109 o] (by simp) (by assumption)⟩
def EG (o:Nat) (t:By) (w:zW) (c:o<=6) (b:(t == [110,111,116])=false) :
  zC prog 75 #[Q (aH 84 o),Q t] w (cB w [aH 83 o,aH 99 o]):=by
 unfold cB;rw [show aH 84 o=[63,84,48+UInt8.ofNat o] from rfl];go_in;go_wp2_with (first|(go_at_call 111;refine (kX o _ (by omega)).m ?_;rintro e D ⟨rfl,a⟩)|(go_at_call 112;refine (fG _ (o:Int) _ (by omega) (by omega)).m ?_;rintro e C ⟨rfl,rfl⟩;rw [im]));go_ret2;exact ⟨_,rfl,gD w _ [aH 83 o,aH 99 o] (by simp) (by assumption)⟩
def EH (o:Nat) (t:By) (w:zW) (c:o<=6) :
  zC prog 75 #[Q (aH 114 o),Q t] w (cB w (gz t [[111,114]] 80 (A 114) o)):=by
 unfold cB;rw [show aH 114 o=[63,114,48+UInt8.ofNat o] from rfl];go_in;go_wp2_with (first|(go_at_call 111;refine (kX o _ (by omega)).m ?_;rintro e D ⟨rfl,C⟩)|(go_at_call 112;refine (fG _ (o:Int) _ (by omega) (by omega)).m ?_;rintro e F ⟨rfl,rfl⟩;rw [im])|(go_at_call 113;refine (xM t [[111,114]] (yh D.heap.size) _ 80 (A 114) (o:Int) _ (by omega) (by omega) (by decide) (λj h=>fh D [[111,114]] 9 j h)).m ?_;rintro e H ⟨E,rfl,a,b⟩;rw [im] at a));go_ret2;exact ⟨_,rfl,a.m (by have:=C.size;simp;omega),(C.alloc C.size _).t (b.m (by have:=C.size;simp;omega))⟩
def EN (o:Nat) (t:By) (w:zW) (c:o<=6) :
  zC prog 75 #[Q (aH 112 o),Q t] w (cB w (gz t [[97,110,100]] 84 (A 112) o)):=by
 unfold cB;rw [show aH 112 o=[63,112,48+UInt8.ofNat o] from rfl];go_in;go_wp2_with (first|(go_at_call 111;refine (kX o _ (by omega)).m ?_;rintro e D ⟨rfl,C⟩)|(go_at_call 112;refine (fG _ (o:Int) _ (by omega) (by omega)).m ?_;rintro e F ⟨rfl,rfl⟩;rw [im])|(go_at_call 113;refine (xM t [[97,110,100]] (yh D.heap.size) _ 84 (A 112) (o:Int) _ (by omega) (by omega) (by decide) (λj h=>fh D [[97,110,100]] 9 j h)).m ?_;rintro e H ⟨E,rfl,a,b⟩;rw [im] at a));go_ret2;exact ⟨_,rfl,a.m (by have:=C.size;simp;omega),(C.alloc C.size _).t (b.m (by have:=C.size;simp;omega))⟩
def EQ (o:Nat) (t:By) (w:zW) (c:o<=6) :
  zC prog 75 #[Q (aH 99 o),Q t] w (cB w (gz t [[61],[60]] 83 none o)):=by
 unfold cB;rw [show aH 99 o=[63,99,48+UInt8.ofNat o] from rfl];go_in;go_wp2_with (first|(go_at_call 111;refine (kX o _ (by omega)).m ?_;rintro e D ⟨rfl,C⟩)|(go_at_call 112;refine (fG _ (o:Int) _ (by omega) (by omega)).m ?_;rintro e F ⟨rfl,rfl⟩;rw [im])|(go_at_call 113;refine (xM t [[61],[60]] (yh D.heap.size) _ 83 none (o:Int) _ (by omega) (by omega) (by decide) (λj h=>fh D [[61],[60]] 9 j h)).m ?_;rintro e H ⟨E,rfl,a,b⟩;rw [im] at a));go_ret2;exact ⟨_,rfl,a.m (by have:=C.size;simp;omega),(C.alloc C.size _).t (b.m (by have:=C.size;simp;omega))⟩
def EV (o:Nat) (t:By) (w:zW) (c:o<=6) :
  zC prog 75 #[Q (aH 115 o),Q t] w (cB w (gz t [[43],[45]] 77 (A 115) o)):=by
 unfold cB;rw [show aH 115 o=[63,115,48+UInt8.ofNat o] from rfl];go_in;go_wp2_with (first|(go_at_call 111;refine (kX o _ (by omega)).m ?_;rintro e D ⟨rfl,C⟩)|(go_at_call 112;refine (fG _ (o:Int) _ (by omega) (by omega)).m ?_;rintro e F ⟨rfl,rfl⟩;rw [im])|(go_at_call 113;refine (xM t [[43],[45]] (yh D.heap.size) _ 77 (A 115) (o:Int) _ (by omega) (by omega) (by decide) (λj h=>fh D [[43],[45]] 9 j h)).m ?_;rintro e H ⟨E,rfl,a,b⟩;rw [im] at a));go_ret2;exact ⟨_,rfl,a.m (by have:=C.size;simp;omega),(C.alloc C.size _).t (b.m (by have:=C.size;simp;omega))⟩
def Fr (o:Nat) (t:By) (w:zW) (c:o<=6) :
  zC prog 75 #[Q (aH 109 o),Q t] w (cB w (gz t [[42],[47],[37]] 65 (A 109) o)):=by
 unfold cB;rw [show aH 109 o=[63,109,48+UInt8.ofNat o] from rfl];go_in;go_wp2_with (first|(go_at_call 111;refine (kX o _ (by omega)).m ?_;rintro e D ⟨rfl,C⟩)|(go_at_call 112;refine (fG _ (o:Int) _ (by omega) (by omega)).m ?_;rintro e F ⟨rfl,rfl⟩;rw [im])|(go_at_call 113;refine (xM t [[42],[47],[37]] (yh D.heap.size) _ 65 (A 109) (o:Int) _ (by omega) (by omega) (by decide) (λj h=>fh D [[42],[47],[37]] 9 j h)).m ?_;rintro e H ⟨E,rfl,a,b⟩;rw [im] at a));go_ret2;exact ⟨_,rfl,a.m (by have:=C.size;simp;omega),(C.alloc C.size _).t (b.m (by have:=C.size;simp;omega))⟩
def FF (o:Nat) (t:By) (w:zW) (f:o<=6) (d:(t == [110,111,116])=true) :
  zC prog 75 #[Q (aH 84 o),Q t] w (cB w (eT t 84 o)):=by
 unfold cB;rw [show aH 84 o=[63,84,48+UInt8.ofNat o] from rfl];go_in;go_wp2_with (first|(go_at_call 111;refine (kX o _ (by omega)).m ?_;rintro e E ⟨rfl,a⟩)|(go_at_call 112;refine (fG _ (o:Int) _ (by omega) (by omega)).m ?_;rintro e D ⟨rfl,rfl⟩;rw [im])|(go_at_call 114;refine (Hk t 84 (o:Int) _ (by omega) (by omega)).m ?_;rintro e F ⟨C,rfl,b,c⟩;rw [im] at b));go_ret2;exact ⟨_,rfl,b.m a.size,a.t (c.m a.size)⟩
def FG (o:Nat) (t:By) (w:zW) (d:o<=6) :
  zC prog 75 #[Q (aH 65 o),Q t] w (cB w (ey t o)):=by
 unfold cB;rw [show aH 65 o=[63,65,48+UInt8.ofNat o] from rfl];go_in;go_wp2_with (first|(go_at_call 111;refine (kX o _ (by omega)).m ?_;rintro e E ⟨rfl,a⟩)|(go_at_call 112;refine (fG _ (o:Int) _ (by omega) (by omega)).m ?_;rintro e D ⟨rfl,rfl⟩;rw [im])|(go_at_call 115;refine (Ec t (o:Int) _ (by omega) (by omega)).m ?_;rintro e F ⟨C,rfl,b,c⟩;rw [im] at b));go_ret2;exact ⟨_,rfl,b.m a.size,a.t (c.m a.size)⟩
end
section
attribute [local go_sem] ap aq
def my:List UInt8:=[82,114,80,112,84,99,83,115,77,109,65]
def pn (s:By):Prop:=(∃ c r,s=c::r/\c≠63/\c::r≠cE)\/s=jX\/s=fj\/∃ k o,k∈my/\o<=6/\s=aH k o
def zk (t:By):Prop:=t=[]\/∃ c r,t=c::r/\c≠63/\c≠78
def K4 (o:Nat) (h:o<=7):(48+UInt8.ofNat o).toNat - 48=o:=by rcases (show o=0\/o=1\/o=2\/o=3\/o=4\/o=5\/o=6\/o=7 by omega) with h|h|h|h|h|h|h|h<;>subst h<;>decide +kernel
def qq (k:UInt8) (o:Nat) (t:By) (h:o<=7):dT (aH k o) t=A (ku k o t):=by
 show A (ku k ((48+UInt8.ofNat o).toNat - 48) t)=_;rw [K4 o h]
def jl (c:UInt8) (r t:By) (h:c≠63):dT (c::r) t=none:=by
 unfold dT;split
 .rename_i a;simp at a;exact absurd a.1 h
 .rename_i a;simp at a;exact absurd a.1 h
 .rfl
def ly (s t:By) (w:zW) (hs:pn s) (i:s≠fj) :
  zC prog 75 #[Q s,Q t] w λe C=>
   (∀ L,dT s t=A L->cB w L e C)/\(dT s t=none->e=zP (zp #[zN,zF false])/\w=C):=by
 rcases hs with ⟨c,r,rfl,f⟩|rfl|rfl|⟨k,o,g,a,rfl⟩
 .refine (ue c r t w f.1).m λe C h=>⟨λL b=>?_,λ_=>h⟩;rw [jl c r t f.1] at b;cases b
 .have l:dT jX t=A (if t=[40] then [fj] else [iF]):=rfl;rw [l];by_cases h:t=[40]
  .subst h;exact (KD w).m λe C h=>⟨λL b=>by simp at b;subst b;exact h,λh=>by cases h⟩
  .rw [aA h];exact (KE t w (bo.2 h)).m λe C h=>⟨λL b=>by simp at b;subst b;exact h,λh=>by cases h⟩
 .exact absurd rfl i
 .rw [qq k o t (by omega)];have fin:∀ L,ku k o t=L->zC prog 75 #[Q (aH k o),Q t] w (cB w L) ->
    zC prog 75 #[Q (aH k o),Q t] w λe C=>
    (∀ L,A (ku k o t)=A L->cB w L e C)/\(A (ku k o t)=none->e=zP (zp #[zN,zF false])/\w=C):=by
   intro L b j;exact j.m λe C h=>⟨λm d=>by simp at d;rw [<- d,b];exact h,λh=>by cases h⟩
  simp only [my,bQ,jA,iK] at g;rcases g with rfl|rfl|rfl|rfl|rfl|rfl|rfl|rfl|rfl|rfl|rfl
  .exact fin _ rfl (Ei o t w a)
  .exact fin _ rfl (EH o t w a)
  .exact fin _ rfl (Ej o t w a)
  .exact fin _ rfl (EN o t w a)
  .by_cases h:t=[110,111,116]
   .exact fin _ (by unfold ku;rw [aA (by decide),aA (by decide),aA (by decide),aA (by decide),aB rfl,aB h]) (FF o t w a (by simp [h]))
   .exact fin _ (by unfold ku;rw [aA (by decide),aA (by decide),aA (by decide),aA (by decide),aB rfl,aA h]) (EG o t w a (bo.2 h))
  .exact fin _ rfl (EQ o t w a)
  .exact fin _ rfl (ED o t w a)
  .exact fin _ rfl (EV o t w a)
  .exact fin _ rfl (EE o t w a)
  .exact fin _ rfl (Fr o t w a)
  .exact fin _ rfl (FG o t w a)
def iG (k:UInt8) (o:Nat) (a:k∈my) (b:o<=6):pn (aH k o):=zZ (zZ (zZ ⟨k,o,a,b,rfl⟩))
def jf (c:UInt8) (r:By) (a:c≠63/\c::r≠cE):pn (c::r):=zR ⟨c,r,rfl,a⟩
def R5 {t:By} (b:zk t) (h:t≠[]):pn t:=by
 rcases b with rfl|⟨c,r,rfl,a⟩
 .exact absurd rfl h
 .exact jf c r ⟨a.1,λh=>a.2 (by unfold cE at h;simp at h;exact h.1)⟩
def qW (L:List By):Prop:=∀ x,x∈L->pn x
def xf (t:By) (k:UInt8) (o:Nat) (c:k∈my) (b:pn t):qW (eT t k o):=by
 unfold eT;split
 .intro x a;simp at a;subst a;exact zZ (zZ (zR rfl))
 .intro x a;simp at a;rcases a with rfl|rfl
  .exact b
  .exact iG _ _ c (by omega)
def po (t:By) (a:List By) (p:UInt8) (g:Option UInt8) (o:Nat) (c:o<=6) (f:p∈my) (j:∀ x,g=A x->x∈my) (i:zk t) (e:∀ x,x∈a->x≠[]):qW (gz t a p g o):=by
 unfold gz;split
 .rename_i d;have h:pn t:=R5 i (e t (by simpa [b5] using d));cases g with
  | none=>
   intro x b;simp at b;rcases b with rfl|rfl
   .exact h
   .exact iG _ _ f c
  | some y=>
   intro x b;simp at b;rcases b with rfl|rfl|rfl
   .exact h
   .exact iG _ _ f c
   .exact iG _ _ (j y rfl) c
 .intro x b;simp at b
def qX (a b:UInt8) (o:Nat) (d:o<=6) (f:a∈my) (e:b∈my):qW [aH a o,aH b o]:=by
 intro x c;simp at c;rcases c with rfl|rfl
 .exact iG _ _ f d
 .exact iG _ _ e d
def ox {t:By} (h:pn t):qW [t]:=by
 intro x a;simp at a;subst a;exact h
def P4 (t:By) (o:Nat) (h:o<=6) (f:zk t):qW (ey t o):=by
 unfold ey;split
 .exact ox (jf 78 _ ⟨by decide,by decide⟩)
 .rename_i c;have d:=R5 f c;split
  .exact ox d
  .split
   .exact xf t 65 o (by decide) d
   .split
    .intro x a;rw [cG] at a;rcases a with a|a
     .exact xf t 82 o (by decide) d x a
     .exact ox (jf 41 _ ⟨by decide,by decide⟩) x a
    .split
     .intro x a;simp at a;rcases a with rfl|rfl
      .exact jf 105 _ ⟨by decide,by decide⟩
      .exact zZ (zR rfl)
     .split
      .rename_i e g;have b:o+1<=6:=by
        simp [g] at e;omega
       intro x a;simp only [bQ,jA,iK] at a;rcases a with rfl|rfl|rfl|rfl|rfl|rfl|rfl|rfl
       .exact jf 105 _ ⟨by decide,by decide⟩
       .exact jf 40 _ ⟨by decide,by decide⟩
       .exact iG _ _ (by decide) b
       .exact jf 44 _ ⟨by decide,by decide⟩
       .exact iG _ _ (by decide) b
       .exact jf 44 _ ⟨by decide,by decide⟩
       .exact iG _ _ (by decide) b
       .exact jf 41 _ ⟨by decide,by decide⟩
      .exact ox (jf 78 _ ⟨by decide,by decide⟩)
def vX (s t:By) (hs:pn s) (i:s≠fj) (b:zk t) (L:List By) (h:dT s t=A L):qW L:=by
 rcases hs with ⟨c,r,rfl,l⟩|rfl|rfl|⟨k,o,f,a,rfl⟩
 .rw [jl c r t l.1] at h;cases h
 .have j:dT jX t=A (if t=[40] then [fj] else [iF]):=rfl;rw [j] at h;simp at h;subst h;split
  .exact ox (zZ (zZ (zR rfl)))
  .exact ox (jf 78 _ ⟨by decide,by decide⟩)
 .exact absurd rfl i
 .rw [qq k o t (by omega)] at h;simp at h;subst h;simp only [my,bQ,jA,iK] at f;have e:∀ x y:UInt8,x∈my->(A x:Option UInt8)=A y->y∈my:=λx y m d=>by simp at d;exact d▸m
  rcases f with rfl|rfl|rfl|rfl|rfl|rfl|rfl|rfl|rfl|rfl|rfl
  .exact qX 80 114 o a (by decide) (by decide)
  .exact po t _ 80 (A 114) o a (by decide) (λy=>e 114 y (by decide)) b (by decide)
  .exact qX 84 112 o a (by decide) (by decide)
  .exact po t _ 84 (A 112) o a (by decide) (λy=>e 112 y (by decide)) b (by decide)
  .unfold ku;rw [aA (by decide),aA (by decide),aA (by decide),aA (by decide),aB rfl];split
   .rename_i g;exact xf t 84 o (by decide) (by rw [g];exact jf 110 _ ⟨by decide,by decide⟩)
   .exact qX 83 99 o a (by decide) (by decide)
  .exact po t _ 83 none o a (by decide) (λy d=>by cases d) b (by decide)
  .exact qX 77 115 o a (by decide) (by decide)
  .exact po t _ 77 (A 115) o a (by decide) (λy=>e 115 y (by decide)) b (by decide)
  .exact qX 65 109 o a (by decide) (by decide)
  .exact po t _ 65 (A 109) o a (by decide) (λy=>e 109 y (by decide)) b (by decide)
  .exact P4 t o a b
def vY (s t:By) (L:List By) (h:dT s t=A L):G L<=8:=by
 have a:∀ t k o,(eT t k o).length<=2:=by intro t k o;unfold eT;split<;>simp
 have b:∀ t d p g o,(gz t d p g o).length<=3:=by
  intro t d p g o;unfold gz;split
  .cases g<;>simp
  .simp
 have c:∀ t o,(ey t o).length<=8:=by
  intro t o;have:=a t 65 o;have:=a t 82 o;unfold ey
  repeat' split
  all_goals simp
  all_goals omega
 have e:∀ k o t,(ku k o t).length<=8:=by
  intro k o t;unfold ku
  repeat' split
  all_goals first|(simp;done)|(have:=a t 84 o;omega)|(refine bf (b _ _ _ _ _) (by omega))|exact c t o
 unfold dT at h;split at h
 .simp at h;subst h;exact e _ _ _
 .simp at h;subst h;split<;>simp
 .cases h
def ll (w:zW) (v:zV) (L:List By):Prop:=
 (L=[]/\∃ b c,v=B b 0 c) \/
 (L≠[]/\∃ a c,v=B (A a) (G L) c/\G L<=c/\∀ j (h:j<G L),w.cell? (a.add j)=A (Q (L[j])))
def lz (f:Nat) (l:By) (k:Nat) (t:By) (p:Nat) (h:(t,p)∈(bW f l k).1):∃ c r,t=c::r/\c≠63/\c≠78:=by
 induction f generalizing l k with
 | zero=>simp [bW] at h
 | succ f e=>
  match l with
  | []=>simp [bW] at h
  | c::r=>
   unfold bW at h;split at h
   .exact e _ _ h
   .split at h
    .rename_i a;simp only [bQ,mI] at h;rcases h with ⟨rfl,rfl⟩|h
     .have o:=nD c r;obtain ⟨n,j⟩:∃ n,rowLen (c::r)=n+1:=⟨rowLen (c::r) - 1,by omega⟩;rw [j,yn] at a ⊢;refine ⟨c,_,rfl,?_⟩;have b:∀ d:UInt8,cT d=false->fF d=false->b5 (d::List.take n r) iV=false->d≠c:=by
       rintro d g i m rfl;unfold di at a;rw [show ae (d::List.take n r)=cT d from rfl,show j6 (d::List.take n r)=fF d from rfl,g,i,m] at a;simp at a
      exact ⟨(b 63 (by decide) (by decide) (by simp [b5,iV])).symm,(b 78 (by decide) (by decide) (by simp [b5,iV])).symm⟩
     .exact e _ _ h
    .simp at h
def fT (f:Nat) (l:By) (k:Nat):(bW f l k).1.length<=f:=by
 induction f generalizing l k with
 | zero=>simp [bW]
 | succ f a=>
  match l with
  | []=>simp [bW]
  | c::r=>
   unfold bW;split
   .exact Nat.le_succ_of_le (a _ _)
   .split
    .simp only [gS];exact Nat.succ_le_succ (a _ _)
    .simp
def iU (s:By) (w:zW) (K:List (By × Nat)) (d:G s<=1000) (h:aI s=(K,none)) :
  zC prog 51 #[Q s] w λe C=>∃ v,e=zP (zp #[v,J (-1)])/\C.ownsRow w.heap.size 118 2 v (G K) (dt K)/\zB w C:=by
 refine (Fl s w d).m λe C c=>?_;obtain ⟨_,a,f⟩:=c;rw [h] at a;obtain ⟨v,b,g⟩:=a rfl;exact ⟨v,b,g,f⟩
def vS (s:By) (w:zW) (p:Nat) (b:G s<=1000) (h:(aI s).2=A p) :
  zC prog 51 #[Q s] w λe C=>e=zP (zp #[zN,J p])/\zB w C:=
 (Fl s w b).m λ_ _ a=>⟨a.1 p h,a.2.2⟩
def rY (K:List (By × Nat)) (j:Nat) (h:j<G K):(dt K)[j*2]?=A (Q K[j].1)/\(dt K)[j*2+1]?=A (J (K[j].2:Int)):=by
 induction K generalizing j with
 | nil=>simp at h
 | cons t K a=>
  have b:dt (t::K)=Q t.1::J (t.2:Int)::dt K:=by simp [dt]
  rw [b];cases j with
  | zero=>simp
  | succ j=>
   have:=a j (by simpa using h);rw [show (j+1)*2=j*2+1+1 by omega];simpa using this
def pQ {w:zW} {Q4:Nat} {v:zV} {K:List (By × Nat)} (h:w.ownsRow Q4 118 2 v (G K) (dt K)) :
  ∃ c a,v=B c (G K) a/\∀ j (b:j<G K),∃ g,c=A (yh g)/\w.cell? (X g (j*2))=A (Q K[j].1)/\w.cell? (X g (j*2+1))=A (J (K[j].2:Int)):=by
 rcases h.2 with ⟨rfl,d⟩|⟨g,a,f,rfl,k,e,i⟩
 .refine ⟨none,0,by rw [d],λj b=>by omega⟩
 .refine ⟨A (yh g),a,rfl,λj b=>⟨g,rfl,?_,?_⟩⟩
  .rw [h.cellAt (j*2) (by omega)];exact (rY K j b).1
  .rw [h.cellAt (j*2+1) (by omega)];exact (rY K j b).2
def cP (len n:Nat) (x:By) (C:List By) (K:List (By × Nat)) (t:By) (p:Nat) (h:(K=[]/\t=[]/\p=len)\/∃ r,K=(t,p)::r) :
  cF len (n+1) (x::C) K=if x=fj then A (4,p) else match dT x t with
   | some m=>cF len n (m++C) K
   | none=>if (if x=cE then bm t else decide (t≠[])&&decide (x=t)) then cF len n C K.tail else A (3,p):=by
 rcases h with ⟨rfl,rfl,rfl⟩|⟨r,rfl⟩<;>rfl
def qB (m:List By):(ab m).length=G m*1:=by simp [ab]
def qC (m:List By) (u:zV) (h:u∈ab m):u.oneCell'=true:=by
 simp [ab] at h;obtain ⟨x,_,rfl⟩:=h;rfl
def ll.below {w w':zW} {v:zV} {L:List By} (h:ll w v L) (i:zB w w'):ll w' v L:=by
 rcases h with h|⟨e,a,c,g,f,d⟩
 .exact zR h
 .exact zZ ⟨e,a,c,g,f,λj b=>(i.cell (gI w _ (d j b))).t (d j b)⟩
def ll.own {w:zW} {Q4:Nat} {v:zV} {L:List By} (h:Own w Q4 v L):ll w v L:=by
 rcases h.2 with ⟨rfl,b⟩|⟨g,c,e,rfl,f,d,a⟩
 .exact zR ⟨zE.1 b,none,0,rfl⟩
 .cases L with
  | nil=>exact zR ⟨rfl,_,_,rfl⟩
  | cons x L=>
   refine zZ ⟨(by simp),_,_,rfl,a.1,λj C=>?_⟩;exact h.cells (g:=g) rfl j _ (by unfold ab;rw [kn,cU C];rfl)
def UG (s:By) (w:zW) (C:Int × Nat) (e:Ending) (w':zW):Prop:=
 ∃ v,e=zP (zp #[v,J C.1,J (C.2:Int)])/\w'.ownsRow w.heap.size 118 2 v (aI s).1.length (dt (aI s).1)/\zB w w'
def ea (w:zW) (v:zV) (K:List (By × Nat)):Prop:=∃ (b:Option zD) (a o:Nat),v=B b (G K) a/\G K<=a/\∀ j (c:j<G K),∃ g,b=A (X g o)/\w.cell? (X g (o+j*2))=A (Q K[j].1)/\w.cell? (X g (o+j*2+1))=A (J (K[j].2:Int))
def Ho (K:List (By × Nat)) (v:zV) (w:zW) (D:ea w v K) (HP:G K<=1000)
  (x:∀ t p,(t,p)∈K->t≠[]/\G t<=19) :
  zC prog 54 #[v] w λe N=>e=zP (Q (bV K (G K)))/\zB w N:=by
 obtain ⟨HS,nN,o,rfl,-,s⟩:=D;have z:=I s;have W:=I x;have n:=I (λk=>pZ K (λt p h=>(x t p h).2) k);clear s x;go_in;go_wp2;go_loopw [3,4] (λo i wr=>∃ k:Nat,k<=G K/\i=J k/\o=Q (bV K k)/\zB w wr) (λ_ i _=>G K - (intOf i).toNat)
 case atStart=>exact ⟨0,bE _,rfl,rfl,aM _ _⟩
 case round=>
  obtain ⟨k,y,rfl,rfl,M⟩:=hrel;have T:=M.size;have l:=n.o k;by_cases c:k<G K
  .obtain ⟨g,rfl,a,u⟩:=z.o k c;have b:=(M.cell (gI w _ a)).t a;have f:=W.o K[k].1 K[k].2 (bt c);have L:=I (x8 K k c);clear u
   match k,c,y,b,f,L,l,a with
   | 0,c,y,b,f,L,l,a=>
    rw [K6] at L;simp only [jC,k7] at b;clear a;generalize K[0].1=t at *;cases d:b5 t kq
    all_goals
     by_cases E:t=[44]<;>by_cases F:t=[110,111,116]
     .subst E;simp at F
     have O:(t == [44])=true:=(by simp [E]);have H:=I (show cM none t=t++[32] by unfold cM;rw [aA (by simp [tK])];simp [E]);rotate_left
     have O:(t == [44])=false:=bo.2 E;have R:(t == [110,111,116])=true:=(by simp [F]);have H:=I (show cM none t=t++[32] by unfold cM;rw [aA (by simp [tK])];simp [F]);rotate_left
     have O:(t == [44])=false:=bo.2 E;have R:(t == [110,111,116])=false:=bo.2 F;have H:=I (show cM none t=dy t by unfold cM;rw [aA (by simp [tK])];simp [E,F])
     all_goals
      have Y:=tv t;clear E F;go_wp2_with (first|(go_at_call 77;refine (xz t kq (yh wr.heap.size) 9 _ (by decide) (λj h=>fh wr kq 9 j h)).m ?_;rintro e N ⟨rfl,rfl⟩)|(go_at_call 79;refine (Jm t _ (by omega)).m ?_;rintro e N ⟨rfl,rfl⟩));go_roundw
      case rel=>exact ⟨0+1,by omega,by go_num,(by rw [L.o,H.o];try simp),(M.alloc T _)⟩
      case measure=>simp [intOf];omega
   | k+1,c,y,b,f,L,l,a=>
    obtain ⟨C,U,m,_⟩:=z.o k (by omega);obtain rfl:g=C:=(by simpa using U);have r:=(M.cell (gI w _ m)).t m;have Q4:g<wr.heap.size:=gI wr _ r;have V:=I (W.o (K[k]'(by omega)).1 (K[k]'(by omega)).2 (bt (by omega))).1;rw [Ap K k (by omega)] at L;clear a m U;generalize (K[k]'(by omega)).1=q at *;generalize K[k+1].1=t at *;cases d:b5 t kq<;>cases P:zT q
    rotate_right
    .have H:=I (show cM (A q) t=[32]++t++[32] by unfold cM;rw [aB (by simp [tK,d,P])]);go_wp2_with (first|(go_at_call 77;refine (xz t kq (yh wr.heap.size) 9 _ (by decide) (λj h=>fh wr kq 9 j h)).m ?_;rintro e N ⟨rfl,rfl⟩)|(go_at_call 78;refine (EC q _ V.o).m ?_;rintro e Z ⟨rfl,S⟩));go_roundw
     case rel=>exact ⟨k+1+1,by omega,by go_num,(by rw [L.o,H.o];try simp),((M.alloc T _).t (S.m (by simp;omega)))⟩
     case measure=>simp [intOf];omega
    all_goals
     by_cases E:t=[44]<;>by_cases F:t=[110,111,116]
     .subst E;simp at F
     have O:(t == [44])=true:=(by simp [E]);have H:=I (show cM (A q) t=t++[32] by unfold cM;rw [aA (by simp [tK,d,P])];simp [E]);rotate_left
     have O:(t == [44])=false:=bo.2 E;have R:(t == [110,111,116])=true:=(by simp [F]);have H:=I (show cM (A q) t=t++[32] by unfold cM;rw [aA (by simp [tK,d,P])];simp [F]);rotate_left
     have O:(t == [44])=false:=bo.2 E;have R:(t == [110,111,116])=false:=bo.2 F;have H:=I (show cM (A q) t=dy t by unfold cM;rw [aA (by simp [tK,d,P])];simp [E,F])
     all_goals
      have Y:=tv t;clear E F;go_wp2_with (first|(go_at_call 77;refine (xz t kq (yh wr.heap.size) 9 _ (by decide) (λj h=>fh wr kq 9 j h)).m ?_;rintro e N ⟨rfl,rfl⟩)|(go_at_call 78;refine (EC q _ V.o).m ?_;rintro e Z ⟨rfl,S⟩)|(go_at_call 79;refine (Jm t _ (by omega)).m ?_;rintro e N ⟨rfl,rfl⟩));go_roundw
      case rel=>exact ⟨k+1+1,by omega,by go_num,(by rw [L.o,H.o];try simp),((M.alloc T _).t (S.m (by simp;omega)))⟩
      case measure=>simp [intOf];omega
  .obtain rfl:k=G K:=(by omega);go_wp2;go_ret;exact ⟨rfl,M⟩
def qM {w:zW} {Q4:Nat} {v:zV} {K:List (By × Nat)} (h:w.ownsRow Q4 118 2 v (G K) (dt K)):ea w v K:=by
 obtain ⟨f,a,rfl,i⟩:=pQ h;refine ⟨f,a,0,rfl,?_,λj d=>?_⟩
 .rcases h.2 with ⟨l,b⟩|⟨g,c,m,b,_,_,k,_⟩
  .injection l with _ n o;omega
  .cases b;exact k
 .obtain ⟨g,e,c0,c1⟩:=i j d;exact ⟨g,e,by rw [cS];exact c0,by rw [cS];exact c1⟩
def Q8 (K:List (By × Nat)) (v:zV) (Q4:Nat) (w:zW) (a:w.ownsRow Q4 118 2 v (G K) (dt K)) (c:G K<=1000)
  (b:∀ t p,(t,p)∈K->t≠[]/\G t<=19) :
  zC prog 54 #[v] w λe C=>e=zP (Q (bV K (G K)))/\zB w C:=Ho K v w (qM a) c b
def Ht (L:List By):Prop:=∀ x,x∈L->pn x\/x=cE
def CK (s:By) (L0:List By) (v0:zV) (w:zW) (hl:G s<=1000) (a0:ll w v0 L0) (cc:G L0<=10) (hg:Ht L0) (n0:Nat) (cd:n0<=1000010) (W:Int × Nat)
  (a2:(aI s).2=none) (C:cF (G s) n0 L0 (aI s).1=A W) :
  zC prog 53 #[Q s,v0] w (UG s w W):=by
 have HG:=λt p (h:(t,p)∈(aI s).1)=>lz _ _ _ t p h;have HG:=I HG;have TT:(aI s).1.length<=G s:=fT _ _ _;generalize a3:aI s=bS at *;obtain ⟨K,en⟩:=bS;simp only at a2 C TT;subst a2;have au:=I a3;have ba:=I C;have a5:=I a0;have a4:=I hg;clear a3 C a0 hg;obtain ⟨i0,hi,wG,aa,ac⟩:=fe yU;go_in;go_wp2_with (go_at_call 51;refine mo (iU s _ K hl au.o) ?_;rintro e r ⟨ch,rfl,ak,a⟩);apply I;obtain ⟨ao,bn,rfl,yR⟩:=pQ ak;have HC:=I yR;have HO:=I ak;have c:=a.size;clear yR ak;go_wp2;go_loopg [1,9] n0 (λaf bX bN wr=>∃ (oP:List By) (j:Nat),ll wr bX oP/\bN=J j/\j<=G K/\cF (G s) af oP (K.drop j)=A W/\Ht oP/\G oP+8*af<=8*n0+10/\zB r wr)
 case atStart=>exact ⟨L0,0,a5.o.below a,rfl,bE _,by simpa using ba.o,a4.o,by omega,aM _ _⟩
 case round=>
  obtain ⟨oP,j,QV,rfl,hj,C,hy,cx,L⟩:=hrel;have D:=I C;clear C;have D5:=L.size;have iL:=I (show wr.ownsRow w.heap.size 118 2 (B ao (G K) bn) (aI s).1.length (dt (aI s).1) by rw [au.o];exact aZ HO.o L)
  match gk,D with
  | 0,D=>have:=D.o;simp [cF] at this
  | gk+1,D=>
  match oP,QV,hy,cx,D with
  | [],QV,hy,cx,D=>
   obtain ⟨T,Z,rfl⟩:∃ ao lU,u1=B ao 0 lU:=by
    rcases QV with ⟨_,h⟩|⟨h,_⟩
    .exact h
    .exact absurd rfl h
   clear QV hy;by_cases l:j<G K
   .obtain ⟨aJ,rfl,ax,n⟩:=HC.o j l;have av:=(L.cell (gI r _ n)).t n;have V:=I (show A ((3:Int),K[j].2)=A W by have:=D.o;rw [jL l] at this;exact this);go_wp2
    go_quiet (fail)
    go_wp2
    go_ret3
    have:=V.o;simp at this;subst this;exact ⟨_,rfl,iL.o,(a.t (L.m c)).t ⟨rfl,rfl,rfl,aG _,λ_ _=>rfl⟩⟩
   .have V:=I (show A ((0:Int),0)=A W by have:=D.o;rw [nY (by omega)] at this;exact this);go_wp2
    go_ret3
    have:=V.o;simp at this;subst this;exact ⟨_,rfl,iL.o,a.t (L.m c)⟩
  | x::E,QV,hy,cx,D=>
   obtain ⟨T,Z,rfl,am,al⟩:∃ ay lU,u1=B (A ay) (x::E).length lU/\(x::E).length<=lU/\∀ j (h:j<(x::E).length),wr.cell? (ay.add j)=A (Q ((x::E)[j])):=by
    rcases QV with ⟨h,_⟩|⟨_,h⟩
    .cases h
    .exact h
   have cf:wr.cell? T=A (Q x):=by have:=al 0 (by simp);rwa [show T.add 0=T by simp [Addr.add]] at this
   have V8:=I al;have br:pn x\/x=cE:=hy x (by simp);have ad:=I (show Ht E from λy U=>hy y (by simp [U]));clear QV hy al;simp only [gS] at cx am ⊢;rcases br.symm with bw|f
   .subst bw;have w4:dT cE=λ_=>none:=by funext t;exact jl 78 _ t (by decide)
    have b:cE≠fj:=(by decide);have wR:((cE:By) == [63,33])=false:=(by decide);have ce:((cE:By) == [78,65,77,69])=true:=(by decide);by_cases l:j<G K
    .obtain ⟨aJ,rfl,ax,n⟩:=HC.o j l;have bb:=(L.cell (gI r _ ax)).t ax;have av:=(L.cell (gI r _ n)).t n;have v4:=I (HG.o K[j].1 K[j].2 (bt l));have d:=I (show (K.drop j=[]/\K[j].1=[]/\K[j].2=G s)\/∃ Q0,K.drop j=(K[j].1,K[j].2)::Q0 from zZ ⟨_,jL l⟩);clear ax n;generalize K[j].1=t at *;generalize K[j].2=p at *;obtain ⟨z,O,rfl,_,bj⟩:=v4.o;have QT:((cE:By) == z::O)=false:=bo.2 λh=>bj (by unfold cE at h;exact (List.cons.inj h).1.symm);have b2:((z::O:By) == [])=false:=(by simp);cases Q5:bm (z::O)
     .have V:=I (show A ((3:Int),p)=A W by have:=D.o;rw [cP _ _ _ _ _ (z::O) p d.o,aA b,w4] at this;simpa [Q5] using this);have Q6:=I Q5;clear Q5 w4;go_wp2_with (first|(go_at_call 75;refine (ue 78 [65,77,69] (z::O) _ (by decide)).m ?_;rintro e H ⟨rfl,rfl⟩)|(go_at_call 76;refine (dD (z::O) _).m ?_;rw [Q6.o];rintro e w3 ⟨rfl,R⟩;have o:=I R;clear R))
      go_ret3
      have:=V.o;simp at this;subst this;exact ⟨_,rfl,aZ iL.o o.o,(a.t (L.m c)).t (o.o.m (bf c D5))⟩
     .have Q4:=I (show cF (G s) gk E (K.drop (j+1))=A W by
       have:=D.o;rw [cP _ _ _ _ _ (z::O) p d.o,aA b,w4] at this;simpa [Q5,List.tail_drop] using this)
      have Q6:=I Q5;clear Q5 w4;by_cases BJ:Z=1
      .have Mn:G E=0:=(by omega);obtain rfl:=zE.1 Mn;subst BJ;go_wp2_with (first|(go_at_call 75;refine (ue 78 [65,77,69] (z::O) _ (by decide)).m ?_;rintro e H ⟨rfl,rfl⟩)|(go_at_call 76;refine (dD (z::O) _).m ?_;rw [Q6.o];rintro e w3 ⟨rfl,R⟩;have o:=I R;clear R));go_roundg gk
       case measure=>omega
       case rel=>
        refine ⟨[],j+1,?_,by go_num,by omega,Q4.o,(λy U=>by cases U),(by simp at cx ⊢;omega),L.t (o.o.m D5)⟩;exact zR ⟨rfl,_,_,rfl⟩
      .have V7:2<=Z:=(by omega);go_wp2_with (first|(go_at_call 75;refine (ue 78 [65,77,69] (z::O) _ (by decide)).m ?_;rintro e H ⟨rfl,rfl⟩)|(go_at_call 76;refine (dD (z::O) _).m ?_;rw [Q6.o];rintro e w3 ⟨rfl,R⟩;have o:=I R;clear R));go_roundg gk
       case measure=>omega
       case rel=>
        refine ⟨E,j+1,?_,by go_num,by omega,Q4.o,ad.o,by omega,L.t (o.o.m D5)⟩;exact by
         cases E with
         | nil=>exact zR ⟨rfl,_,_,rfl⟩
         | cons y E=>
          refine zZ ⟨(by simp),T.add 1,Z - 1,by simp [Addr.add],by have:=am;simp only [gS] at this ⊢;omega,λq F=>?_⟩;have h:=(o.o.cell (gI wr _ (V8.o (q+1) (by simpa using F)))).t (V8.o (q+1) (by simpa using F));rw [show (T.add 1).add q=T.add (q+1) by rw [Addr.add_add,mP],h];rfl
    .have d:=I (show (K.drop j=[]/\([]:By)=[]/\G s=G s)\/∃ Q0,K.drop j=(([]:By),G s)::Q0 from zR ⟨nY (by omega),rfl,rfl⟩);have QT:((cE:By) == [])=false:=(by decide);have PS:bm []=false:=(by decide);have V:=I (show A ((3:Int),G s)=A W by have:=D.o;rw [cP _ _ _ _ _ [] (G s) d.o,aA b,w4] at this;simpa [PS] using this);clear w4;go_wp2_with (first|(go_at_call 75;refine (ue 78 [65,77,69] [] _ (by decide)).m ?_;rintro e H ⟨rfl,rfl⟩)|(go_at_call 76;refine (dD [] _).m ?_;rw [PS];rintro e w3 ⟨rfl,R⟩;have o:=I R;clear R))
     go_ret3
     have:=V.o;simp at this;subst this;exact ⟨_,rfl,aZ iL.o o.o,(a.t (L.m c)).t (o.o.m (bf c D5))⟩
   .by_cases l:j<G K
    focus
     obtain ⟨aJ,rfl,ax,n⟩:=HC.o j l;have bb:=(L.cell (gI r _ ax)).t ax;have av:=(L.cell (gI r _ n)).t n;have v4:=I (show zk K[j].1 from zZ (HG.o K[j].1 K[j].2 (bt l)));have d:=I (show (K.drop j=[]/\K[j].1=[]/\K[j].2=G s)\/∃ Q0,K.drop j=(K[j].1,K[j].2)::Q0 from zZ ⟨_,jL l⟩);clear ax n;generalize K[j].1=t at *;generalize K[j].2=p at *;by_cases b:x=fj
     .subst b;have V:=I (show A ((4:Int),p)=A W by have:=D.o;rw [cP _ _ _ _ _ t p d.o,aB rfl] at this;exact this);have ar:((fj:By) == [63,33])=true:=(by decide);go_wp2
      go_ret3
      have:=V.o;simp at this;subst this;exact ⟨_,rfl,iL.o,a.t (L.m c)⟩
     have ar:(x == [63,33])=false:=bo.2 b;rcases M:dT x t with _|m
     .have P:=I M;have hq:=I (show x≠cE by
       rcases f with ⟨lU,Q0,rfl,hc⟩|rfl|rfl|⟨af,bO,hk,ho,rfl⟩
       .exact hc.2
       .decide
       .decide
       .intro h;simp [aH,cE] at h)
      have bk:(x == [78,65,77,69])=false:=bo.2 hq.o;have a8:(x == cE)=false:=bo.2 hq.o;clear M;cases t with
      | nil=>
       have V:=I (show A ((3:Int),p)=A W by have:=D.o;rw [cP _ _ _ _ _ [] p d.o,aA b,P.o] at this;simpa [hq.o] using this);go_wp2_with (go_at_call 75;refine (ly x [] _ f b).m ?_;rintro e H ⟨N,S⟩;obtain ⟨rfl,rfl⟩:=S P.o;clear N)
       go_ret3
       have:=V.o;simp at this;subst this;exact ⟨_,rfl,iL.o,a.t (L.m c)⟩
      | cons z O=>
       by_cases QT:x=z::O
       .have bl:(x == z::O)=true:=by simp [QT]
        have Q4:=I (show cF (G s) gk E (K.drop (j+1))=A W by
         have:=D.o;rw [cP _ _ _ _ _ (z::O) p d.o,aA b,P.o] at this;have bu:(z::O:By)≠cE:=QT▸hq.o;simpa [bu,QT,List.tail_drop] using this)
        clear QT;by_cases BJ:Z=1
        .have Mn:G E=0:=(by omega);obtain rfl:=zE.1 Mn;subst BJ;go_wp2_with (go_at_call 75;refine (ly x (z::O) _ f b).m ?_;rintro e H ⟨N,S⟩;obtain ⟨rfl,rfl⟩:=S P.o;clear N);go_roundg gk
         case measure=>omega
         case rel=>
          refine ⟨[],j+1,?_,by go_num,by omega,Q4.o,(λy U=>by cases U),(by simp at cx ⊢;omega),L⟩;exact zR ⟨rfl,_,_,rfl⟩
        .have V7:2<=Z:=(by omega);go_wp2_with (go_at_call 75;refine (ly x (z::O) _ f b).m ?_;rintro e H ⟨N,S⟩;obtain ⟨rfl,rfl⟩:=S P.o;clear N);go_roundg gk
         case measure=>omega
         case rel=>
          refine ⟨E,j+1,?_,by go_num,by omega,Q4.o,ad.o,by omega,L⟩;exact by
           cases E with
           | nil=>exact zR ⟨rfl,_,_,rfl⟩
           | cons y E=>
            refine zZ ⟨(by simp),T.add 1,Z - 1,by simp [Addr.add],by have:=am;simp only [gS] at this ⊢;omega,λq F=>?_⟩;have h:=V8.o (q+1) (by simpa using F);rw [show (T.add 1).add q=T.add (q+1) by rw [Addr.add_add,mP],h];rfl
       .have bl:(x == z::O)=false:=bo.2 QT;have SS:=QT;have V:=I (show A ((3:Int),p)=A W by have:=D.o;rw [cP _ _ _ _ _ (z::O) p d.o,aA b,P.o] at this;simpa [hq.o,SS] using this);clear SS QT;go_wp2_with (go_at_call 75;refine (ly x (z::O) _ f b).m ?_;rintro e H ⟨N,S⟩;obtain ⟨rfl,rfl⟩:=S P.o;clear N)
        go_ret3
        have:=V.o;simp at this;subst this;exact ⟨_,rfl,iL.o,a.t (L.m c)⟩
     have P:=I M;have wK:=I (show cF (G s) gk (m++E) (K.drop j)=A W by have:=D.o;rw [cP _ _ _ _ _ t p d.o,aA b,M] at this;exact this);have oM:=I (vX x t f b v4.o m M);have bs:=vY x t m M;clear M;go_wp2_with (go_at_call 75;refine mo (ly x t _ f b) ?_;rintro e H ⟨N,S⟩;obtain ⟨v2,rfl,an,w2⟩:=N m P.o;clear N S);apply I
    rotate_left
    focus
     have v4:=I (show zk [] from zR rfl);have d:=I (show (K.drop j=[]/\([]:By)=[]/\G s=G s)\/∃ Q0,K.drop j=([],G s)::Q0 from zR ⟨nY (by omega),rfl,rfl⟩);by_cases b:x=fj
     .subst b;have V:=I (show A ((4:Int),G s)=A W by have:=D.o;rw [cP _ _ _ _ _ [] (G s) d.o,aB rfl] at this;exact this);have ar:((fj:By) == [63,33])=true:=(by decide);go_wp2
      go_ret3
      have:=V.o;simp at this;subst this;exact ⟨_,rfl,iL.o,a.t (L.m c)⟩
     have ar:(x == [63,33])=false:=bo.2 b;rcases M:dT x [] with _|m
     .have P:=I M;have hq:=I (show x≠cE by
       rcases f with ⟨lU,Q0,rfl,hc⟩|rfl|rfl|⟨af,bO,hk,ho,rfl⟩
       .exact hc.2
       .decide
       .decide
       .intro h;simp [aH,cE] at h)
      have bk:(x == [78,65,77,69])=false:=bo.2 hq.o;have a8:(x == cE)=false:=bo.2 hq.o;clear M;have V:=I (show A ((3:Int),G s)=A W by have:=D.o;rw [cP _ _ _ _ _ [] (G s) d.o,aA b,P.o] at this;simpa [hq.o] using this);go_wp2_with (go_at_call 75;refine (ly x [] _ f b).m ?_;rintro e H ⟨N,S⟩;obtain ⟨rfl,rfl⟩:=S P.o;clear N)
      go_ret3
      have:=V.o;simp at this;subst this;exact ⟨_,rfl,iL.o,a.t (L.m c)⟩
     have P:=I M;have wK:=I (show cF (G s) gk (m++E) (K.drop j)=A W by have:=D.o;rw [cP _ _ _ _ _ [] (G s) d.o,aA b,M] at this;exact this);have oM:=I (vX x [] f b v4.o m M);have bs:=vY x [] m M;clear M;go_wp2_with (go_at_call 75;refine mo (ly x [] _ f b) ?_;rintro e H ⟨N,S⟩;obtain ⟨v2,rfl,an,w2⟩:=N m P.o;clear N S);apply I
    all_goals
     rcases an.2 with ⟨rfl,a1⟩|⟨g2,Q2,b1,rfl,b3,a9,Q1⟩
     .obtain rfl:=zE.1 a1;have bv:=w2.size;have v:H.ownsRow H.heap.size 9 1 (zN) ([]:List By).length (ab []):=eW _ _ _ _;have R:zB H H:=aM _ _;have w1:=R.size;generalize SJ:([]:List By)=m at *;have b0:=I SJ;clear SJ a1;go_wp2_with (at_builtin;refine Bv rfl (.tmp 58) (.tmp 59) 24 rfl H.heap.size 9 i0 1 underlying24 hi (zN) 0 [] rfl (eW _ _ _ _) rfl ?_;apply Hid.o);apply I;by_cases BJ:Z=1
      .have Mn:G E=0:=(by omega);obtain rfl:=zE.1 Mn;subst BJ;go_wp2_with (at_builtin;refine km _ rfl (.tmp 61) (.tmp 63) 24 rfl H.heap.size 9 i0 (Q []) 1 16 underlying24 hi wG aa ac rfl (by decide) (zN) (G m) (ab m) rfl v T 0 0 (ab []) ?e1 (qB []) (λq u F=>by simp [ab] at F) (qC []) (by unfold maxLen;omega) (by omega) w1 ?_;rotate_right;intro k Y i g _;apply Hid.o)
       case e1=>simp [go_sem]
       have Gc:=I (show Own Y H.heap.size k (m++[]) by
        show Y.ownsRow _ 9 1 k _ _;rw [b6];simpa [ab] using i)
       have xB:=I (show zB r Y from ((L.t (w2.m D5)).t (R.m (by omega))).grown g (by omega) (λq F=>by have:=(fJ v q F).1;omega));clear i g;apply I;go_wp2;go_roundg gk
       case measure=>omega
       case rel=>exact ⟨m++[],j,ll.own Gc.o,rfl,hj,by simpa using wK.o,λy U=>(cG.1 U).elim (λh=>zR (oM.o y h)) (λh=>by cases h),by rw [b6];simp;omega,xB.o⟩
      .have V7:2<=Z:=(by omega);have ag:=I (show ∀ q u,(ab E)[q]?=A u->(H:zW).cell? ((T.add 1).add q)=A u from λq u F=>by
        unfold ab at F;rw [kn] at F;obtain ⟨y,U,rfl⟩:=oF.1 F;obtain ⟨Mh,rfl⟩:=fI.1 U;have h:=V8.o (q+1) (by simpa using Mh);rw [show (T.add 1).add q=T.add (q+1) by rw [Addr.add_add,mP]];rw [R.cell (by have:=gI wr _ h;omega),w2.cell (gI wr _ h),h];rfl)
       go_wp2_with (at_builtin;refine km _ rfl (.tmp 61) (.tmp 63) 24 rfl H.heap.size 9 i0 (Q []) 1 16 underlying24 hi wG aa ac rfl (by decide) (zN) (G m) (ab m) rfl v (T.add 1) (G E) (Z - 1) (ab E) ?e1 (qB E) ag.o (qC E) (by unfold maxLen;omega) (by omega) w1 ?_;rotate_right;intro k Y i g _;apply Hid.o)
       case e1=>simp [go_sem]
       have Gc:=I (show Own Y H.heap.size k (m++E) by
        show Y.ownsRow _ 9 1 k _ _;rw [b6];simpa [ab] using i)
       have xB:=I (show zB r Y from ((L.t (w2.m D5)).t (R.m (by omega))).grown g (by omega) (λq F=>by have:=(fJ v q F).1;omega));clear i g;apply I;go_wp2;go_roundg gk
       case measure=>omega
       case rel=>exact ⟨m++E,j,ll.own Gc.o,rfl,hj,wK.o,λy U=>(cG.1 U).elim (λh=>zR (oM.o y h)) (ad.o y),by rw [b6];omega,xB.o⟩
     .have BI:=I (λq u F=>an.cells (g:=g2) rfl q u F);have bv:=w2.size;clear a9 Q1;go_wp2_with (at_builtin;refine km _ rfl (.tmp 58) (.tmp 59) 24 rfl H.heap.size 9 i0 (Q []) 1 16 underlying24 hi wG aa ac rfl (by decide) (zN) 0 [] rfl (eW _ _ _ _) (yh g2) (G m) Q2 (ab m) rfl (qB m) BI.o (qC m) (by unfold maxLen;omega) (by omega) (aG _) ?_;intro v3 w3 v Q3 _;apply Hid.o);rw [cS,ko] at v;have R:zB H w3:=(aM _ _).grown Q3 (aG _) (λq F=>by cases F);have w1:=R.size;clear Q3;apply I;by_cases BJ:Z=1
      .have Mn:G E=0:=(by omega);obtain rfl:=zE.1 Mn;subst BJ;go_wp2_with (at_builtin;refine km _ rfl (.tmp 61) (.tmp 63) 24 rfl H.heap.size 9 i0 (Q []) 1 16 underlying24 hi wG aa ac rfl (by decide) v3 (G m) (ab m) rfl v T 0 0 (ab []) ?e1 (qB []) (λq u F=>by simp [ab] at F) (qC []) (by unfold maxLen;omega) (by omega) w1 ?_;rotate_right;intro k Y i g _;apply Hid.o)
       case e1=>simp [go_sem]
       have Gc:=I (show Own Y H.heap.size k (m++[]) by
        show Y.ownsRow _ 9 1 k _ _;rw [b6];simpa [ab] using i)
       have xB:=I (show zB r Y from ((L.t (w2.m D5)).t (R.m (by omega))).grown g (by omega) (λq F=>by have:=(fJ v q F).1;omega));clear i g;apply I;go_wp2;go_roundg gk
       case measure=>omega
       case rel=>exact ⟨m++[],j,ll.own Gc.o,rfl,hj,by simpa using wK.o,λy U=>(cG.1 U).elim (λh=>zR (oM.o y h)) (λh=>by cases h),by rw [b6];simp;omega,xB.o⟩
      .have V7:2<=Z:=(by omega);have ag:=I (show ∀ q u,(ab E)[q]?=A u->(w3:zW).cell? ((T.add 1).add q)=A u from λq u F=>by
        unfold ab at F;rw [kn] at F;obtain ⟨y,U,rfl⟩:=oF.1 F;obtain ⟨Mh,rfl⟩:=fI.1 U;have h:=V8.o (q+1) (by simpa using Mh);rw [show (T.add 1).add q=T.add (q+1) by rw [Addr.add_add,mP]];rw [R.cell (by have:=gI wr _ h;omega),w2.cell (gI wr _ h),h];rfl)
       go_wp2_with (at_builtin;refine km _ rfl (.tmp 61) (.tmp 63) 24 rfl H.heap.size 9 i0 (Q []) 1 16 underlying24 hi wG aa ac rfl (by decide) v3 (G m) (ab m) rfl v (T.add 1) (G E) (Z - 1) (ab E) ?e1 (qB E) ag.o (qC E) (by unfold maxLen;omega) (by omega) w1 ?_;rotate_right;intro k Y i g _;apply Hid.o)
       case e1=>simp [go_sem]
       have Gc:=I (show Own Y H.heap.size k (m++E) by
        show Y.ownsRow _ 9 1 k _ _;rw [b6];simpa [ab] using i)
       have xB:=I (show zB r Y from ((L.t (w2.m D5)).t (R.m (by omega))).grown g (by omega) (λq F=>by have:=(fJ v q F).1;omega));clear i g;apply I;go_wp2;go_roundg gk
       case measure=>omega
       case rel=>exact ⟨m++E,j,ll.own Gc.o,rfl,hj,wK.o,λy U=>(cG.1 U).elim (λh=>zR (oM.o y h)) (ad.o y),by rw [b6];omega,xB.o⟩
def nc (w:zW) (a:By) (err:Int) (at_:Nat) (e:Ending) (w':zW):Prop:=
 e=zP (zp #[Q a,J err,J at_])/\zB w w'
def FS (s:By) (w:zW) (h:120<G s):zC prog 80 #[Q s] w (nc w [] 1 0):=by
 go_in;go_wp2
 go_ret3
 exact ⟨rfl,aM _ _⟩
def K8 (s:By) (v0:zV) (w:zW) (p:Nat) (c:G s<=1000) (a:(aI s).2=A p) :
  zC prog 53 #[Q s,v0] w λe C=>e=zP (zp #[zN,J 2,J p])/\zB w C:=by
 have d:=I a;clear a;go_in;go_wp2_with (go_at_call 51;refine (vS s _ p c d.o).m ?_;rintro e D ⟨rfl,b⟩)
 go_ret3
 exact ⟨rfl,by assumption⟩
def FW (s:By) (w:zW) (p:Nat) (d:G s<=120) (b:(aI s).2=A p):zC prog 80 #[Q s] w (nc w [] 2 p):=by
 have c:=I b;clear b;go_in;go_wp2_with (go_at_call 53;refine (K8 s _ _ p (by omega) c.o).m ?_;rintro e C ⟨rfl,a⟩)
 go_ret3
 exact ⟨rfl,(bZ _).t (a.m (by simp))⟩
def FY (s:By) (w:zW) (K:List (By × Nat)) (o:G s<=120) (b:aI s=(K,none)) (f:Nat) (l:f<=1000000) (err:Int) (p:Nat)
  (a:cF (G s) f [aH 82 0] K=A (err,p)) (C:err≠0):zC prog 80 #[Q s] w (nc w [] err p):=by
 have d:cF (G s) f [aH 82 0] (aI s).1=A (err,p):=by rw [b];exact a
 have c:(aI s).2=none:=by rw [b]
 have j:=I (λ(k:zW)=>CK s [aH 82 0] _ _ (by omega) (ll.own (nz k [aH 82 0] (by simp))) (by simp) (λx n=>zR (ox (iG 82 0 (by decide) (by decide)) x n)) f (by omega) (err,p) c d);have m:(err == 0)=false:=bo.2 C;have h:(err != 0)=true:=(by simp [C]);clear a d c b C;go_in;go_wp2_with (go_at_call 53;refine (j.o _).m ?_;rintro e D ⟨v,rfl,i,g⟩)
 go_ret3
 exact ⟨rfl,(bZ _).t (g.m (by simp))⟩
def iv (s:By) (w:zW) (K:List (By × Nat)) (y:G s<=120) (a:aI s=(K,none)) (j:Nat) (o:j<=1000000)
  (d:cF (G s) j [aH 82 0] K=A (0,0)) :
  zC prog 80 #[Q s] w (if 100<(bV K (G K)).length then nc w [] 7 0 else nc w (bV K (G K)) 0 0):=by
 have i:cF (G s) j [aH 82 0] (aI s).1=A (0,0):=by rw [a];exact d
 have g:(aI s).2=none:=by rw [a]
 have m:G K<=G s:=by have:=fT (G s) s 0;rw [show bW (G s) s 0=(K,none) from a] at this;exact this
 have f:∀ t p,(t,p)∈K->t≠[]/\G t<=19:=by
  intro t p h;have k:(t,p)∈(bW (G s) s 0).1:=by rw [show bW (G s) s 0=(K,none) from a];exact h
  obtain ⟨c,r,q,_⟩:=lz _ _ _ t p k;exact ⟨by rw [q];simp,pW _ _ _ t p k⟩
 have l:=pZ K (λt p h=>(f t p h).2) (G K);have H:=I (λ(n:zW)=>CK s [aH 82 0] _ _ (by omega) (ll.own (nz n [aH 82 0] (by simp))) (by simp) (λx u=>zR (ox (iG 82 0 (by decide) (by decide)) x u)) j (by omega) (0,0) g i);have F:=I f;have L:=I (show (aI s).1=K by rw [a]);clear d i g a f;by_cases b:100<(bV K (G K)).length
 .rw [aB b];go_in;go_wp2_with (first|(go_at_call 53;refine (H.o _).m ?_;rintro e M ⟨v,rfl,D,C⟩;rw [L.o] at D)|(go_at_call 54;refine (Q8 K _ _ _ D (by omega) F.o).m ?_;rintro e N ⟨rfl,E⟩))
  go_ret3
  exact ⟨rfl,((bZ _).t (C.m (by simp))).t (E.m (by have:=C.size;simp at this;omega))⟩
 .rw [aA b];go_in;go_wp2_with (first|(go_at_call 53;refine (H.o _).m ?_;rintro e M ⟨v,rfl,D,C⟩;rw [L.o] at D)|(go_at_call 54;refine (Q8 K _ _ _ D (by omega) F.o).m ?_;rintro e N ⟨rfl,E⟩))
  go_ret3
  exact ⟨rfl,((bZ _).t (C.m (by simp))).t (E.m (by have:=C.size;simp at this;omega))⟩
end
end Go.Proofs.YtihgojcfpnhelaaGreatDoor
