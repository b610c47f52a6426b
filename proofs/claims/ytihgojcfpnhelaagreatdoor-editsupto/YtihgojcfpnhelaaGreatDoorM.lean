import Derived.Test.YtihgojcfpnhelaaGreatDoorJb
import Derived.Test.YtihgojcfpnhelaaGreatDoorShelf
set_option maxRecDepth 100000
set_option maxHeartbeats 4000000
set_option linter.all false
namespace Go.Proofs.YtihgojcfpnhelaaGreatDoor
open Go renaming World->zW,Value->zV,Calls->zC,Addr->zD
open Go.RowKit Go.Proofs.Tryz
open List renaming length→G
section
attribute [local go_sem] idx_eq app_eq
def OY (o:Nat) (h:o<=7):Lib.decDigits o=[48+UInt8.ofNat o]:=MD
def fG (k:UInt8) (n:Int) (w:zW) (b:0<=n) (c:n<=7) :
  zC prog 112 #[.string ⟨#[k]⟩,zI n] w λe w'=>e=.returned (.string ⟨(aH k n.toNat).toArray⟩)/\w=w':=by
 obtain ⟨o,rfl⟩:=Int.eq_ofNat_of_zero_le b;rw [im];have a:=I (OY o ae);go_in;go_wp2_with (go_at_call 50;refine (strconv_Itoa_small o ae _).m ?_;rintro e w' ⟨rfl,rfl⟩;rw [a.o]);go_ret;exact ⟨rfl,rfl⟩
def strs (l:List By):List zV:=l.map λx=>zG x
def Own (w:zW) (B:Nat) (v:zV) (l:List By):Prop:=w.ownsRow B 9 1 v (G l) (strs l)
def nz (w:zW) (l:List By) (a:(G l)<=1000):Own (w.alloc (.cells (strs l).toArray 9)) w.heap.size (zS w.heap.size (G l) (G l)) l:=by
 have h:=World.ownsRow_lit (base:=w.heap.size) (e:=9) (size:=1) w (strs l).toArray (G l) (aG _) jM (by simp [strs]);exact h
def yU:(prog.info? 9).map (λi=>(i.zero,i.size,i.bytes))=some (some (zG []),1,16):=aD
def Hk (t:By) (k:UInt8) (n:Int) (w:zW) (c:0<=n) (d:n<=6) :
  zC prog 114 #[zG t,.string ⟨#[k]⟩,zI n] w λe w'=>∃ v,e=.returned v/\Own w' w.heap.size v (eT t k n.toNat)/\zB w w':=by
 obtain ⟨o,rfl⟩:=Int.eq_ofNat_of_zero_le c;rw [im];by_cases b:6<=o
 ·have a:=I (show eT t k o=[fj] by simp [eT,b]);go_in;go_wp2;go_ret;exact ⟨_,rfl,by rw [a.o];exact nz w [fj] ai,(aM _ _).alloc (aG _) _⟩
 ·have a:=I (show eT t k o=[t,aH k (o+1)] by simp [eT,b]);go_in;go_wp2_with (go_at_call 112;refine (fG k ((o:Int)+1) _ ae ae).m ?_;rintro e w' ⟨rfl,rfl⟩;rw [show ((o:Int)+1).toNat=o+1 from ae]);go_ret;exact ⟨_,rfl,by rw [a.o];exact nz w [t,aH k (o+1)] aq,(aM _ _).alloc (aG _) _⟩
def Ry:Option UInt8->By|none=>[]|some g=>[g]
def xM (t:By) (b:List By) (a:zD) (c:Nat) (part:UInt8) (d:Option UInt8) (n:Int) (w:zW) (B:0<=n) (E:n<=6) (p:(G b)<=100)
  (r:∀ j (h:j<G b),w.cell? (a.add j)=some (.string ⟨(b[j]).toArray⟩)) :
  zC prog 113 #[zG t,.slice (some a) (G b) c,.string ⟨#[part]⟩,.string ⟨(Ry d).toArray⟩,zI n] w λe w'=>∃ v,e=.returned v/\Own w' w.heap.size v (gz t b part d n.toNat)/\zB w w':=by
 obtain ⟨o,rfl⟩:=Int.eq_ofNat_of_zero_le B;rw [im];cases kL:b5 t b
 ·have l:=I (show gz t b part d o=[] from Oi);go_in;go_wp2_with (go_at_call 77;refine (xz t b a c _ p r).m ?_;rintro e w' ⟨rfl,rfl⟩);go_ret;exact ⟨_,rfl,by rw [l.o];exact eW _ _ _ _,aM _ _⟩
 ·match d with
  | none=>
   have l:=I (show gz t b part none o=[t,aH part o] from Oi);go_in;go_wp2_with (first|(go_at_call 77;refine (xz t b a c _ p r).m ?_;rintro e w' ⟨rfl,rfl⟩)|(go_at_call 112;refine (fG part (o:Int) _ ae ae).m ?_;rintro e w' ⟨rfl,rfl⟩;rw [im]));go_ret;exact ⟨_,rfl,by rw [l.o];exact nz w [t,aH part o] aq,(aM _ _).alloc (aG _) _⟩
  | some g=>
   have l:=I (show gz t b part (some g) o=[t,aH part o,aH g o] from Oi);obtain ⟨z,D,m,q,s⟩:=fe yU;go_in;have y:Ry (some g)=[g]:=rfl;rw [y];clear y;have A:w.heap.size<=w.heap.size+1+1:=ae;go_wp2_with (first|(go_at_call 77;refine (xz t b a c _ p r).m ?_;rintro e w' ⟨rfl,rfl⟩)|(go_at_call 112;refine (fG _ (o:Int) _ ae ae).m ?_;rintro e w' ⟨rfl,rfl⟩;rw [im])|(at_builtin;refine km _ rfl (.tmp 25) (.tmp 29) 24 rfl w.heap.size 9 z (zG []) 1 16 underlying24 D m q s rfl ai _ 2 (strs [t,aH part o]) rfl ((nz w [t,aH part o] aq).alloc _) ⟨w.heap.size+1,0,none⟩ 1 1 [.string ⟨(aH g o).toArray⟩] rfl rfl ?c1 ?c2 ?c3 ?c4 ?c5 ?_))
   case c1=>
    exact Yr
   case c2=>intro u x;simp at x;subst x;rfl
   case c3=>decide
   case c4=>decide
   case c5=>simp;omega
   intro v' w1 f i _;go_wp2;go_ret;exact ⟨v',rfl,by rw [l.o];exact f,((bZ _).alloc aq _).grown i aN (λk C=>by simp [Value.ownBlock] at C;omega)⟩
def Own.m {w:zW} {B c:Nat} {v:zV} {l:List By} (h:Own w B v l) (f:c<=B):Own w c v l:=by
 refine ⟨h.1,?_⟩;rcases h.2 with e|⟨g,a,b,d,i,r⟩
 ·exact Or.inl e
 ·exact Or.inr ⟨g,a,b,d,ae,r⟩
def gD (a w:zW) (l:List By) (c:(G l)<=1000) (b:zB a w) :
  Own (w.alloc (.cells (strs l).toArray 9)) a.heap.size (zS w.heap.size (G l) (G l)) l/\zB a (w.alloc (.cells (strs l).toArray 9)):=
 ⟨(nz w l c).m b.size,b.alloc b.size _⟩
def df (w:zW) (L:List By) (e:Ending) (w':zW):Prop:=∃ v,e=.returned v/\Own w' w.heap.size v L/\zB w w'
def aex (c:UInt8) (r:By) (o:Nat) (w:zW) (d:o<=6) (b:dm (c.toNat:Int)=true) :
  zC prog 115 #[.string ⟨(c::r).toArray⟩,zI o] w (df w [c::r]):=by
 unfold df;go_in;go_wp2_with (first|(go_at_call 112;refine (fG _ ((o:Int)+1) _ ae ae).m ?_;rintro e w' ⟨rfl,rfl⟩;rw [show ((o:Int)+1).toNat=o+1 from ae])|(go_at_call 76;refine (dD _ _).m ?_;rintro e w1 ⟨rfl,a⟩)|(go_at_call 109;refine (bR (c.toNat:Int) _).m ?_;rintro e w' ⟨rfl,rfl⟩));go_ret;exact ⟨_,rfl,gD w _ [c::r] aq kM⟩
def aey (c:UInt8) (r:By) (o:Nat) (w:zW) (f:o<=6) (d:dm (c.toNat:Int)=false) (b:((c::r:By) == [116,114,117,101])=true) :
  zC prog 115 #[.string ⟨(c::r).toArray⟩,zI o] w (df w [c::r]):=by
 unfold df;go_in;go_wp2_with (first|(go_at_call 112;refine (fG _ ((o:Int)+1) _ ae ae).m ?_;rintro e w' ⟨rfl,rfl⟩;rw [show ((o:Int)+1).toNat=o+1 from ae])|(go_at_call 76;refine (dD _ _).m ?_;rintro e w1 ⟨rfl,a⟩)|(go_at_call 109;refine (bR (c.toNat:Int) _).m ?_;rintro e w' ⟨rfl,rfl⟩));go_ret;exact ⟨_,rfl,gD w _ [c::r] aq kM⟩
def aez (c:UInt8) (r:By) (o:Nat) (w:zW) (f:o<=6) (d:dm (c.toNat:Int)=false) (b:((c::r:By) == [116,114,117,101])=false) (hF:((c::r:By) == [102,97,108,115,101])=true) :
  zC prog 115 #[.string ⟨(c::r).toArray⟩,zI o] w (df w [c::r]):=by
 unfold df;go_in;go_wp2_with (first|(go_at_call 112;refine (fG _ ((o:Int)+1) _ ae ae).m ?_;rintro e w' ⟨rfl,rfl⟩;rw [show ((o:Int)+1).toNat=o+1 from ae])|(go_at_call 76;refine (dD _ _).m ?_;rintro e w1 ⟨rfl,a⟩)|(go_at_call 109;refine (bR (c.toNat:Int) _).m ?_;rintro e w' ⟨rfl,rfl⟩));go_ret;exact ⟨_,rfl,gD w _ [c::r] aq kM⟩
def aeA (c:UInt8) (r:By) (o:Nat) (w:zW) (g:o<=6) (d:dm (c.toNat:Int)=false) (b:((c::r:By) == [116,114,117,101])=false) (hF:((c::r:By) == [102,97,108,115,101])=false) (f:bm (c::r)=true) :
  zC prog 115 #[.string ⟨(c::r).toArray⟩,zI o] w (df w [c::r]):=by
 unfold df;go_in;go_wp2_with (first|(go_at_call 112;refine (fG _ ((o:Int)+1) _ ae ae).m ?_;rintro e w' ⟨rfl,rfl⟩;rw [show ((o:Int)+1).toNat=o+1 from ae])|(go_at_call 76;refine (dD _ _).m ?_;rintro e w1 ⟨rfl,a⟩)|(go_at_call 109;refine (bR (c.toNat:Int) _).m ?_;rintro e w' ⟨rfl,rfl⟩));go_ret;exact ⟨_,rfl,gD w _ [c::r] aq kM⟩
def aeB (c:UInt8) (r:By) (o:Nat) (w:zW) (j:o<=6) (g:dm (c.toNat:Int)=false) (i:((c::r:By) == [116,114,117,101])=false) (hF:((c::r:By) == [102,97,108,115,101])=false) (h:bm (c::r)=false) (f:((c::r:By) == [45])=true) :
  zC prog 115 #[.string ⟨(c::r).toArray⟩,zI o] w (df w (eT (c::r) 65 o)):=by
 unfold df;go_in;go_wp2_with (first|(go_at_call 112;refine (fG _ ((o:Int)+1) _ ae ae).m ?_;rintro e w' ⟨rfl,rfl⟩;rw [show ((o:Int)+1).toNat=o+1 from ae])|(go_at_call 76;refine (dD _ _).m ?_;rintro e w1 ⟨rfl,a⟩)|(go_at_call 109;refine (bR (c.toNat:Int) _).m ?_;rintro e w' ⟨rfl,rfl⟩)|(go_at_call 114;refine (Hk (c::r) 65 (o:Int) _ ae ae).m ?_;rintro e w2 ⟨v2,rfl,b,d⟩;rw [im] at b));go_ret;exact ⟨_,rfl,b.m a.size,a.t (d.m a.size)⟩
def aby (c:UInt8) (r:By) (o:Nat) (w:zW) (i:o<=6) (f:dm (c.toNat:Int)=false) (h:((c::r:By) == [116,114,117,101])=false) (hF:((c::r:By) == [102,97,108,115,101])=false) (g:bm (c::r)=false) (b:((c::r:By) == [45])=false) (hO:((c::r:By) == [40])=false) (d:((c::r:By) == [105,102])=true) (j:6<=o) :
  zC prog 115 #[.string ⟨(c::r).toArray⟩,zI o] w (df w [[105,102],jX]):=by
 unfold df;go_in;go_wp2_with (first|(go_at_call 112;refine (fG _ ((o:Int)+1) _ ae ae).m ?_;rintro e w' ⟨rfl,rfl⟩;rw [show ((o:Int)+1).toNat=o+1 from ae])|(go_at_call 76;refine (dD _ _).m ?_;rintro e w1 ⟨rfl,a⟩)|(go_at_call 109;refine (bR (c.toNat:Int) _).m ?_;rintro e w' ⟨rfl,rfl⟩));go_ret;exact ⟨_,rfl,gD w _ [[105,102],jX] aq kM⟩
def aeC (c:UInt8) (r:By) (o:Nat) (w:zW) (i:o<=6) (f:dm (c.toNat:Int)=false) (h:((c::r:By) == [116,114,117,101])=false) (hF:((c::r:By) == [102,97,108,115,101])=false) (g:bm (c::r)=false) (b:((c::r:By) == [45])=false) (hO:((c::r:By) == [40])=false) (d:((c::r:By) == [105,102])=true) (j:o<6) :
  zC prog 115 #[.string ⟨(c::r).toArray⟩,zI o] w (df w [[105,102],[40],aH 82 (o+1),[44],aH 82 (o+1),[44],aH 82 (o+1),[41]]):=by
 unfold df;go_in;go_wp2_with (first|(go_at_call 112;refine (fG _ ((o:Int)+1) _ ae ae).m ?_;rintro e w' ⟨rfl,rfl⟩;rw [show ((o:Int)+1).toNat=o+1 from ae])|(go_at_call 76;refine (dD _ _).m ?_;rintro e w1 ⟨rfl,a⟩)|(go_at_call 109;refine (bR (c.toNat:Int) _).m ?_;rintro e w' ⟨rfl,rfl⟩));go_ret;exact ⟨_,rfl,gD w _ [[105,102],[40],aH 82 (o+1),[44],aH 82 (o+1),[44],aH 82 (o+1),[41]] aq kM⟩
def aeD (c:UInt8) (r:By) (o:Nat) (w:zW) (i:o<=6) (g:dm (c.toNat:Int)=false) (b:((c::r:By) == [116,114,117,101])=false) (hF:((c::r:By) == [102,97,108,115,101])=false) (h:bm (c::r)=false) (d:((c::r:By) == [45])=false) (hO:((c::r:By) == [40])=false) (f:((c::r:By) == [105,102])=false) :
  zC prog 115 #[.string ⟨(c::r).toArray⟩,zI o] w (df w [iF]):=by
 unfold df;go_in;go_wp2_with (first|(go_at_call 112;refine (fG _ ((o:Int)+1) _ ae ae).m ?_;rintro e w' ⟨rfl,rfl⟩;rw [show ((o:Int)+1).toNat=o+1 from ae])|(go_at_call 76;refine (dD _ _).m ?_;rintro e w1 ⟨rfl,a⟩)|(go_at_call 109;refine (bR (c.toNat:Int) _).m ?_;rintro e w' ⟨rfl,rfl⟩));go_ret;exact ⟨_,rfl,gD w _ [iF] aq kM⟩
def aeE (c:UInt8) (r:By) (o:Nat) (w:zW) (B:o<=6) (z:dm (c.toNat:Int)=false) (C:((c::r:By) == [116,114,117,101])=false) (hF:((c::r:By) == [102,97,108,115,101])=false) (A:bm (c::r)=false) (y:((c::r:By) == [45])=false) (hO:((c::r:By) == [40])=true) :
  zC prog 115 #[.string ⟨(c::r).toArray⟩,zI o] w (df w (eT (c::r) 82 o++[[41]])):=by
 unfold df;obtain ⟨p,x,h,i,m⟩:=fe yU;go_in;go_wp2_with (first|(go_at_call 112;refine (fG _ ((o:Int)+1) _ ae ae).m ?_;rintro e w' ⟨rfl,rfl⟩;rw [show ((o:Int)+1).toNat=o+1 from ae])|(go_at_call 76;refine (dD _ _).m ?_;rintro e w1 ⟨rfl,a⟩)|(go_at_call 109;refine (bR (c.toNat:Int) _).m ?_;rintro e w' ⟨rfl,rfl⟩)|(go_at_call 114;refine mo (Hk (c::r) 82 (o:Int) _ ae ae) ?_;rintro e w2 ⟨v2,rfl,b,g⟩;rw [im] at b));apply I;have q:(eT (c::r) 82 o).length<=2:=by unfold eT;split<;>simp
 have t:=g.size;have s:=a.size;go_wp2_with (at_builtin;refine km _ rfl (.tmp 44) (.tmp 45) 24 rfl w1.heap.size 9 p (zG []) 1 16 underlying24 x h i m rfl ai v2 (eT (c::r) 82 o).length (strs (eT (c::r) 82 o)) rfl (b.alloc _) ⟨w2.heap.size,0,none⟩ 1 1 [.string ⟨#[41]⟩] rfl rfl ?c1 ?c2 ?c3 ?c4 ?c5 ?_)
 case c1=>
  exact Yr
 case c2=>intro u n;simp at n;subst n;rfl
 case c3=>unfold maxLen;omega
 case c4=>omega
 case c5=>simp;omega
 intro v' w3 d f _;go_wp2;go_ret;have l:Own w3 w1.heap.size v' (eT (c::r) 82 o++[[41]]):=by
  show w3.ownsRow _ 9 1 v' _ _;rw [b6];simpa [strs] using d
 exact ⟨_,rfl,l.m a.size,(a.t (g.m a.size)).t (((aM _ _).alloc ae _).grown f aN (λk v=>by have:=(fJ b k v).1;have:=a.size;omega))⟩
def aeF (o:Nat) (w:zW) (b:o<=6) :
  zC prog 115 #[.string ⟨([]:By).toArray⟩,zI o] w (df w [iF]):=by
 unfold df;go_in;go_wp2_with (first|(go_at_call 112;refine (fG _ ((o:Int)+1) _ ae ae).m ?_;rintro e w' ⟨rfl,rfl⟩;rw [show ((o:Int)+1).toNat=o+1 from ae])|(go_at_call 76;refine (dD [] _).m ?_;rintro e w1 ⟨rfl,a⟩));go_ret;exact ⟨_,rfl,gD w _ [iF] aq kM⟩
def aeG (t:By) (n:Int) (w:zW) (u:0<=n) (x:n<=6) :
  zC prog 115 #[zG t,zI n] w λe w'=>∃ v,e=.returned v/\Own w' w.heap.size v (ey t n.toNat)/\zB w w':=by
 obtain ⟨o,rfl⟩:=Int.eq_ofNat_of_zero_le u;rw [im];show zC prog 115 _ w (df w (ey t o));have g:o<=6:=ae
 match t with
 | []=>exact aeF o w g
 | c::r=>
  have q:headD (c::r)=dm (c.toNat:Int):=rfl;by_cases hD:dm (c.toNat:Int)=true
  ·rw [show ey (c::r) o=[c::r] by simp [ey,q,hD]];exact aex c r o w g hD
  by_cases k:(c::r:By)=[116,114,117,101]
  ·rw [show ey (c::r) o=[c::r] by simp [ey,k]];exact aey c r o w g yI (by simp [k])
  by_cases hF:(c::r:By)=[102,97,108,115,101]
  ·rw [show ey (c::r) o=[c::r] by simp [ey,hF]];exact aez c r o w g yI (bo.2 k) (by simp [hF])
  by_cases m:bm (c::r)=true
  ·rw [show ey (c::r) o=[c::r] by simp [ey,m]];exact aeA c r o w g yI (bo.2 k) (bo.2 hF) m
  have a:dm (c.toNat:Int)=false:=yI;have f:((c::r:By) == [116,114,117,101])=false:=bo.2 k;have d:((c::r:By) == [102,97,108,115,101])=false:=bo.2 hF;have b:bm (c::r)=false:=by simpa using m
  have s:ey (c::r) o=(if (c::r:By)=[45] then eT (c::r) 65 o
    else if (c::r:By)=[40] then eT (c::r) 82 o++[[41]]
    else if (c::r:By)=[105,102]&&decide (6<=o) then [[105,102],jX]
    else if (c::r:By)=[105,102] then [[105,102],[40],aH 82 (o+1),[44],aH 82 (o+1),[44],aH 82 (o+1),[41]]
    else [iF]):=by
   unfold ey;rw [aA aq,aA (by rw [q,a,b];simp [k,hF])]
  rw [s];by_cases l:(c::r:By)=[45]
  ·rw [aB l];exact aeB c r o w g a f d b (by simp [l])
  rw [aA l];have h:((c::r:By) == [45])=false:=bo.2 l;by_cases hO:(c::r:By)=[40]
  ·rw [aB hO];exact aeE c r o w g a f d b h (by simp [hO])
  rw [aA hO];have i:((c::r:By) == [40])=false:=bo.2 hO;by_cases j:(c::r:By)=[105,102]
  ·by_cases p:6<=o
   ·rw [aB (by simp [j,p])];exact aby c r o w g a f d b h i (by simp [j]) p
   ·rw [aA (by simp [p]),aB j];exact aeC c r o w g a f d b h i (by simp [j]) ae
  ·rw [aA (by simp [j]),aA j];exact aeD c r o w g a f d b h i (bo.2 j)
end
section
attribute [local go_sem] idx_eq app_eq ext_eq
def KC (o:Nat) (h:o<=7):Lib.atoi [48+UInt8.ofNat o]=some (o:Int):=MD
def kX (o:Nat) (w:zW) (h:o<=7) :
  zC prog 111 #[.string ⟨#[48+UInt8.ofNat o]⟩] w λe w'=>e=.returned (.tuple #[zI o,.nilIface])/\zB w w':=
 (strconv_Atoi ⟨#[48+UInt8.ofNat o]⟩ (o:Int) (by show 1<=18;omega) (KC o h) w).m λe w' a=>⟨a.1,by
  obtain ⟨t,rfl⟩:=a.2;exact Lib.bytesWorld_below _ _ _⟩
def cB (w:zW) (L:List By) (e:Ending) (w':zW):Prop:=∃ v,e=.returned (.tuple #[v,.bool true])/\Own w' w.heap.size v L/\zB w w'
def ue (c:UInt8) (r t:By) (w:zW) (hc:c≠63) :
  zC prog 75 #[.string ⟨(c::r).toArray⟩,zG t] w λe w'=>e=.returned (.tuple #[zN,.bool false])/\w=w':=by
 have a:((c.toNat:Int) == 63)=false:=Yf;have b:((c.toNat:Int) != 63)=true:=by simp [bne,a]
 go_in;go_wp2;go_ret2;exact ⟨rfl,rfl⟩
def KD (w:zW) :
  zC prog 75 #[zG jX,.string ⟨([40]:By).toArray⟩] w (cB w [fj]):=by
 unfold cB jX;go_in;go_wp2;go_ret2;exact ⟨_,rfl,gD w w [fj] ai (aM _ _)⟩
def KE (t:By) (w:zW) (a:(t == [40])=false) :
  zC prog 75 #[zG jX,zG t] w (cB w [iF]):=by
 unfold cB jX;go_in;go_wp2;go_ret2;exact ⟨_,rfl,gD w w [iF] ai (aM _ _)⟩
def aiF (o:Nat) (t:By) (w:zW) (b:o<=6) :
  zC prog 75 #[.string ⟨(aH 82 o).toArray⟩,zG t] w (cB w [aH 80 o,aH 114 o]):=by
 unfold cB;rw [show aH 82 o=[63,82,48+UInt8.ofNat o] from rfl];go_in;go_wp2_with (first|(go_at_call 111;refine (kX o _ ae).m ?_;rintro e w1 ⟨rfl,a⟩)|(go_at_call 112;refine (fG _ (o:Int) _ ae ae).m ?_;rintro e w' ⟨rfl,rfl⟩;rw [im]));go_ret2;exact ⟨_,rfl,gD w _ [aH 80 o,aH 114 o] aq kM⟩
def aiG (o:Nat) (t:By) (w:zW) (b:o<=6) :
  zC prog 75 #[.string ⟨(aH 80 o).toArray⟩,zG t] w (cB w [aH 84 o,aH 112 o]):=by
 unfold cB;rw [show aH 80 o=[63,80,48+UInt8.ofNat o] from rfl];go_in;go_wp2_with (first|(go_at_call 111;refine (kX o _ ae).m ?_;rintro e w1 ⟨rfl,a⟩)|(go_at_call 112;refine (fG _ (o:Int) _ ae ae).m ?_;rintro e w' ⟨rfl,rfl⟩;rw [im]));go_ret2;exact ⟨_,rfl,gD w _ [aH 84 o,aH 112 o] aq kM⟩
def aiH (o:Nat) (t:By) (w:zW) (b:o<=6) :
  zC prog 75 #[.string ⟨(aH 83 o).toArray⟩,zG t] w (cB w [aH 77 o,aH 115 o]):=by
 unfold cB;rw [show aH 83 o=[63,83,48+UInt8.ofNat o] from rfl];go_in;go_wp2_with (first|(go_at_call 111;refine (kX o _ ae).m ?_;rintro e w1 ⟨rfl,a⟩)|(go_at_call 112;refine (fG _ (o:Int) _ ae ae).m ?_;rintro e w' ⟨rfl,rfl⟩;rw [im]));go_ret2;exact ⟨_,rfl,gD w _ [aH 77 o,aH 115 o] aq kM⟩
def aiI (o:Nat) (t:By) (w:zW) (b:o<=6) :
  zC prog 75 #[.string ⟨(aH 77 o).toArray⟩,zG t] w (cB w [aH 65 o,aH 109 o]):=by
 unfold cB;rw [show aH 77 o=[63,77,48+UInt8.ofNat o] from rfl];go_in;go_wp2_with (first|(go_at_call 111;refine (kX o _ ae).m ?_;rintro e w1 ⟨rfl,a⟩)|(go_at_call 112;refine (fG _ (o:Int) _ ae ae).m ?_;rintro e w' ⟨rfl,rfl⟩;rw [im]));go_ret2;exact ⟨_,rfl,gD w _ [aH 65 o,aH 109 o] aq kM⟩
def aiJ (o:Nat) (t:By) (w:zW) (c:o<=6) (b:(t == [110,111,116])=false) :
  zC prog 75 #[.string ⟨(aH 84 o).toArray⟩,zG t] w (cB w [aH 83 o,aH 99 o]):=by
 unfold cB;rw [show aH 84 o=[63,84,48+UInt8.ofNat o] from rfl];go_in;go_wp2_with (first|(go_at_call 111;refine (kX o _ ae).m ?_;rintro e w1 ⟨rfl,a⟩)|(go_at_call 112;refine (fG _ (o:Int) _ ae ae).m ?_;rintro e w' ⟨rfl,rfl⟩;rw [im]));go_ret2;exact ⟨_,rfl,gD w _ [aH 83 o,aH 99 o] aq kM⟩
def aiK (o:Nat) (t:By) (w:zW) (c:o<=6) :
  zC prog 75 #[.string ⟨(aH 114 o).toArray⟩,zG t] w (cB w (gz t [[111,114]] 80 (some 114) o)):=by
 unfold cB;rw [show aH 114 o=[63,114,48+UInt8.ofNat o] from rfl];go_in;go_wp2_with (first|(go_at_call 111;refine (kX o _ ae).m ?_;rintro e w1 ⟨rfl,hb1⟩)|(go_at_call 112;refine (fG _ (o:Int) _ ae ae).m ?_;rintro e w' ⟨rfl,rfl⟩;rw [im])|(go_at_call 113;refine (xM t [[111,114]] ⟨w1.heap.size,0,none⟩ _ 80 (some 114) (o:Int) _ ae ae ai (λj h=>fh w1 [[111,114]] 9 j h)).m ?_;rintro e w2 ⟨v2,rfl,a,b⟩;rw [im] at a));go_ret2;exact ⟨_,rfl,a.m vN,(hb1.alloc hb1.size _).t (b.m vN)⟩
def aiL (o:Nat) (t:By) (w:zW) (c:o<=6) :
  zC prog 75 #[.string ⟨(aH 112 o).toArray⟩,zG t] w (cB w (gz t [[97,110,100]] 84 (some 112) o)):=by
 unfold cB;rw [show aH 112 o=[63,112,48+UInt8.ofNat o] from rfl];go_in;go_wp2_with (first|(go_at_call 111;refine (kX o _ ae).m ?_;rintro e w1 ⟨rfl,hb1⟩)|(go_at_call 112;refine (fG _ (o:Int) _ ae ae).m ?_;rintro e w' ⟨rfl,rfl⟩;rw [im])|(go_at_call 113;refine (xM t [[97,110,100]] ⟨w1.heap.size,0,none⟩ _ 84 (some 112) (o:Int) _ ae ae ai (λj h=>fh w1 [[97,110,100]] 9 j h)).m ?_;rintro e w2 ⟨v2,rfl,a,b⟩;rw [im] at a));go_ret2;exact ⟨_,rfl,a.m vN,(hb1.alloc hb1.size _).t (b.m vN)⟩
def aiM (o:Nat) (t:By) (w:zW) (c:o<=6) :
  zC prog 75 #[.string ⟨(aH 99 o).toArray⟩,zG t] w (cB w (gz t [[61],[60]] 83 none o)):=by
 unfold cB;rw [show aH 99 o=[63,99,48+UInt8.ofNat o] from rfl];go_in;go_wp2_with (first|(go_at_call 111;refine (kX o _ ae).m ?_;rintro e w1 ⟨rfl,hb1⟩)|(go_at_call 112;refine (fG _ (o:Int) _ ae ae).m ?_;rintro e w' ⟨rfl,rfl⟩;rw [im])|(go_at_call 113;refine (xM t [[61],[60]] ⟨w1.heap.size,0,none⟩ _ 83 none (o:Int) _ ae ae ai (λj h=>fh w1 [[61],[60]] 9 j h)).m ?_;rintro e w2 ⟨v2,rfl,a,b⟩;rw [im] at a));go_ret2;exact ⟨_,rfl,a.m vN,(hb1.alloc hb1.size _).t (b.m vN)⟩
def aiN (o:Nat) (t:By) (w:zW) (c:o<=6) :
  zC prog 75 #[.string ⟨(aH 115 o).toArray⟩,zG t] w (cB w (gz t [[43],[45]] 77 (some 115) o)):=by
 unfold cB;rw [show aH 115 o=[63,115,48+UInt8.ofNat o] from rfl];go_in;go_wp2_with (first|(go_at_call 111;refine (kX o _ ae).m ?_;rintro e w1 ⟨rfl,hb1⟩)|(go_at_call 112;refine (fG _ (o:Int) _ ae ae).m ?_;rintro e w' ⟨rfl,rfl⟩;rw [im])|(go_at_call 113;refine (xM t [[43],[45]] ⟨w1.heap.size,0,none⟩ _ 77 (some 115) (o:Int) _ ae ae ai (λj h=>fh w1 [[43],[45]] 9 j h)).m ?_;rintro e w2 ⟨v2,rfl,a,b⟩;rw [im] at a));go_ret2;exact ⟨_,rfl,a.m vN,(hb1.alloc hb1.size _).t (b.m vN)⟩
def aiO (o:Nat) (t:By) (w:zW) (c:o<=6) :
  zC prog 75 #[.string ⟨(aH 109 o).toArray⟩,zG t] w (cB w (gz t [[42],[47],[37]] 65 (some 109) o)):=by
 unfold cB;rw [show aH 109 o=[63,109,48+UInt8.ofNat o] from rfl];go_in;go_wp2_with (first|(go_at_call 111;refine (kX o _ ae).m ?_;rintro e w1 ⟨rfl,hb1⟩)|(go_at_call 112;refine (fG _ (o:Int) _ ae ae).m ?_;rintro e w' ⟨rfl,rfl⟩;rw [im])|(go_at_call 113;refine (xM t [[42],[47],[37]] ⟨w1.heap.size,0,none⟩ _ 65 (some 109) (o:Int) _ ae ae ai (λj h=>fh w1 [[42],[47],[37]] 9 j h)).m ?_;rintro e w2 ⟨v2,rfl,a,b⟩;rw [im] at a));go_ret2;exact ⟨_,rfl,a.m vN,(hb1.alloc hb1.size _).t (b.m vN)⟩
def aeY (o:Nat) (t:By) (w:zW) (f:o<=6) (d:(t == [110,111,116])=true) :
  zC prog 75 #[.string ⟨(aH 84 o).toArray⟩,zG t] w (cB w (eT t 84 o)):=by
 unfold cB;rw [show aH 84 o=[63,84,48+UInt8.ofNat o] from rfl];go_in;go_wp2_with (first|(go_at_call 111;refine (kX o _ ae).m ?_;rintro e w1 ⟨rfl,a⟩)|(go_at_call 112;refine (fG _ (o:Int) _ ae ae).m ?_;rintro e w' ⟨rfl,rfl⟩;rw [im])|(go_at_call 114;refine (Hk t 84 (o:Int) _ ae ae).m ?_;rintro e w2 ⟨v2,rfl,b,c⟩;rw [im] at b));go_ret2;exact ⟨_,rfl,b.m a.size,a.t (c.m a.size)⟩
def aiP (o:Nat) (t:By) (w:zW) (d:o<=6) :
  zC prog 75 #[.string ⟨(aH 65 o).toArray⟩,zG t] w (cB w (ey t o)):=by
 unfold cB;rw [show aH 65 o=[63,65,48+UInt8.ofNat o] from rfl];go_in;go_wp2_with (first|(go_at_call 111;refine (kX o _ ae).m ?_;rintro e w1 ⟨rfl,a⟩)|(go_at_call 112;refine (fG _ (o:Int) _ ae ae).m ?_;rintro e w' ⟨rfl,rfl⟩;rw [im])|(go_at_call 115;refine (aeG t (o:Int) _ ae ae).m ?_;rintro e w2 ⟨v2,rfl,b,c⟩;rw [im] at b));go_ret2;exact ⟨_,rfl,b.m a.size,a.t (c.m a.size)⟩
end
section
attribute [local go_sem] idx_eq app_eq
def my:List UInt8:=[82,114,80,112,84,99,83,115,77,109,65]
def pn (s:By):Prop:=(∃ c r,s=c::r/\c≠63/\c::r≠cE)\/s=jX\/s=fj\/∃ k o,k∈my/\o<=6/\s=aH k o
def zk (t:By):Prop:=t=[]\/∃ c r,t=c::r/\c≠63/\c≠78
def K4 (o:Nat) (h:o<=7):(48+UInt8.ofNat o).toNat - 48=o:=MD
def qq (k:UInt8) (o:Nat) (t:By) (h:o<=7):dT (aH k o) t=some (ku k o t):=by
 show some (ku k ((48+UInt8.ofNat o).toNat - 48) t)=_;rw [K4 o h]
def jl (c:UInt8) (r t:By) (h:c≠63):dT (c::r) t=none:=by
 unfold dT;split
 ·rename_i a;simp at a;exact absurd a.1 h
 ·rename_i a;simp at a;exact absurd a.1 h
 ·rfl
def ly (s t:By) (w:zW) (hs:pn s) (i:s≠fj) :
  zC prog 75 #[zG s,zG t] w λe w'=>
   (∀ L,dT s t=some L->cB w L e w')/\(dT s t=none->e=.returned (.tuple #[zN,.bool false])/\w=w'):=by
 rcases hs with ⟨c,r,rfl,f⟩|rfl|rfl|⟨k,o,g,a,rfl⟩
 ·refine (ue c r t w f.1).m λe w' h=>⟨λL b=>?_,λ_=>h⟩;rw [jl c r t f.1] at b;cases b
 ·have l:dT jX t=some (if t=[40] then [fj] else [iF]):=rfl;rw [l];by_cases h:t=[40]
  ·subst h;exact (KD w).m λe w' h=>⟨λL b=>by simp at b;subst b;exact h,λh=>ir⟩
  ·rw [aA h];exact (KE t w (bo.2 h)).m λe w' h=>⟨λL b=>by simp at b;subst b;exact h,λh=>ir⟩
 ·exact absurd rfl i
 ·rw [qq k o t ae];have fin:∀ L,ku k o t=L->zC prog 75 #[.string ⟨(aH k o).toArray⟩,zG t] w (cB w L) ->
    zC prog 75 #[.string ⟨(aH k o).toArray⟩,zG t] w λe w'=>
    (∀ L,some (ku k o t)=some L->cB w L e w')/\(some (ku k o t)=none->e=.returned (.tuple #[zN,.bool false])/\w=w'):=by
   intro L b j;exact j.m λe w' h=>⟨λm d=>by simp at d;rw [<- d,b];exact h,λh=>ir⟩
  simp only [my,bQ,jA,iK] at g;rcases g with rfl|rfl|rfl|rfl|rfl|rfl|rfl|rfl|rfl|rfl|rfl
  ·exact fin _ rfl (aiF o t w a)
  ·exact fin _ rfl (aiK o t w a)
  ·exact fin _ rfl (aiG o t w a)
  ·exact fin _ rfl (aiL o t w a)
  ·by_cases h:t=[110,111,116]
   ·exact fin _ (by unfold ku;rw [aA ai,aA ai,aA ai,aA ai,aB rfl,aB h]) (aeY o t w a (by simp [h]))
   ·exact fin _ (by unfold ku;rw [aA ai,aA ai,aA ai,aA ai,aB rfl,aA h]) (aiJ o t w a (bo.2 h))
  ·exact fin _ rfl (aiM o t w a)
  ·exact fin _ rfl (aiH o t w a)
  ·exact fin _ rfl (aiN o t w a)
  ·exact fin _ rfl (aiI o t w a)
  ·exact fin _ rfl (aiO o t w a)
  ·exact fin _ rfl (aiP o t w a)
def iG (k:UInt8) (o:Nat) (a:k∈my) (b:o<=6):pn (aH k o):=Or.inr (Or.inr (Or.inr ⟨k,o,a,b,rfl⟩))
def jf (c:UInt8) (r:By) (a:c≠63/\c::r≠cE):pn (c::r):=Or.inl ⟨c,r,rfl,a⟩
def R5 {t:By} (b:zk t) (h:t≠[]):pn t:=by
 rcases b with rfl|⟨c,r,rfl,a⟩
 ·exact absurd rfl h
 ·exact jf c r ⟨a.1,λh=>a.2 (by unfold cE at h;simp at h;exact h.1)⟩
def qW (L:List By):Prop:=∀ x,x∈L->pn x
def xf (t:By) (k:UInt8) (o:Nat) (c:k∈my) (b:pn t):qW (eT t k o):=by
 unfold eT;split
 ·intro x a;simp at a;subst a;exact Or.inr (Or.inr (Or.inl rfl))
 ·intro x a;simp at a;rcases a with rfl|rfl
  ·exact b
  ·exact iG _ _ c ae
def po (t:By) (a:List By) (p:UInt8) (g:Option UInt8) (o:Nat) (c:o<=6) (f:p∈my) (j:∀ x,g=some x->x∈my) (i:zk t) (e:∀ x,x∈a->x≠[]):qW (gz t a p g o):=by
 unfold gz;split
 ·rename_i d;have h:pn t:=R5 i (e t (by simpa [b5] using d));cases g with
  | none=>
   intro x b;simp at b;rcases b with rfl|rfl
   ·exact h
   ·exact iG _ _ f c
  | some y=>
   intro x b;simp at b;rcases b with rfl|rfl|rfl
   ·exact h
   ·exact iG _ _ f c
   ·exact iG _ _ (j y rfl) c
 ·intro x b;simp at b
def qX (a b:UInt8) (o:Nat) (d:o<=6) (f:a∈my) (e:b∈my):qW [aH a o,aH b o]:=by
 intro x c;simp at c;rcases c with rfl|rfl
 ·exact iG _ _ f d
 ·exact iG _ _ e d
def ox {t:By} (h:pn t):qW [t]:=by
 intro x a;simp at a;subst a;exact h
def P4 (t:By) (o:Nat) (h:o<=6) (f:zk t):qW (ey t o):=by
 unfold ey;split
 ·exact Nb
 ·rename_i c;have d:=R5 f c;split
  ·exact ox d
  ·split
   ·exact xf t 65 o ai d
   ·split
    ·intro x a;rw [cG] at a;rcases a with a|a
     ·exact xf t 82 o ai d x a
     ·exact ox (jf 41 _ ⟨ai,ai⟩) x a
    ·split
     ·intro x a;simp at a;rcases a with rfl|rfl
      ·exact jf 105 _ ⟨ai,ai⟩
      ·exact Or.inr (Or.inl rfl)
     ·split
      ·rename_i e g;have b:o+1<=6:=by
        simp [g] at e;omega
       intro x a;simp only [bQ,jA,iK] at a;rcases a with rfl|rfl|rfl|rfl|rfl|rfl|rfl|rfl
       ·exact jf 105 _ ⟨ai,ai⟩
       ·exact jf 40 _ ⟨ai,ai⟩
       ·exact iG _ _ ai b
       ·exact jf 44 _ ⟨ai,ai⟩
       ·exact iG _ _ ai b
       ·exact jf 44 _ ⟨ai,ai⟩
       ·exact iG _ _ ai b
       ·exact jf 41 _ ⟨ai,ai⟩
      ·exact Nb
def vX (s t:By) (hs:pn s) (i:s≠fj) (b:zk t) (L:List By) (h:dT s t=some L):qW L:=by
 rcases hs with ⟨c,r,rfl,l⟩|rfl|rfl|⟨k,o,f,a,rfl⟩
 ·rw [jl c r t l.1] at h;cases h
 ·have j:dT jX t=some (if t=[40] then [fj] else [iF]):=rfl;rw [j] at h;simp at h;subst h;split
  ·exact ox (Or.inr (Or.inr (Or.inl rfl)))
  ·exact Nb
 ·exact absurd rfl i
 ·rw [qq k o t ae] at h;simp at h;subst h;simp only [my,bQ,jA,iK] at f;have e:∀ x y:UInt8,x∈my->(some x:Option UInt8)=some y->y∈my:=λx y m d=>by simp at d;exact d▸m
  rcases f with rfl|rfl|rfl|rfl|rfl|rfl|rfl|rfl|rfl|rfl|rfl
  ·exact qX 80 114 o a ai ai
  ·exact po t _ 80 (some 114) o a ai (λy=>e 114 y ai) b ai
  ·exact qX 84 112 o a ai ai
  ·exact po t _ 84 (some 112) o a ai (λy=>e 112 y ai) b ai
  ·unfold ku;rw [aA ai,aA ai,aA ai,aA ai,aB rfl];split
   ·rename_i g;exact xf t 84 o ai (by rw [g];exact jf 110 _ ⟨ai,ai⟩)
   ·exact qX 83 99 o a ai ai
  ·exact po t _ 83 none o a ai (λy d=>by cases d) b ai
  ·exact qX 77 115 o a ai ai
  ·exact po t _ 77 (some 115) o a ai (λy=>e 115 y ai) b ai
  ·exact qX 65 109 o a ai ai
  ·exact po t _ 65 (some 109) o a ai (λy=>e 109 y ai) b ai
  ·exact P4 t o a b
def vY (s t:By) (L:List By) (h:dT s t=some L):(G L)<=8:=by
 have a:∀ t k o,(eT t k o).length<=2:=by intro t k o;unfold eT;split<;>simp
 have b:∀ t d p g o,(gz t d p g o).length<=3:=by
  intro t d p g o;unfold gz;split
  ·cases g<;>simp
  ·simp
 have c:∀ t o,(ey t o).length<=8:=by
  intro t o;have:=a t 65 o;have:=a t 82 o;unfold ey
  repeat' split
  all_goals simp
  all_goals omega
 have e:∀ k o t,(ku k o t).length<=8:=by
  intro k o t;unfold ku
  repeat' split
  all_goals first|(simp;done)|(have:=a t 84 o;omega)|(refine bf (b _ _ _ _ _) ae)|exact c t o
 unfold dT at h;split at h
 ·simp at h;subst h;exact e _ _ _
 ·simp at h;subst h;split<;>simp
 ·cases h
def ll (w:zW) (v:zV) (L:List By):Prop:=
 (L=[]/\∃ b c,v=.slice b 0 c) \/
 (L≠[]/\∃ a c,v=.slice (some a) (G L) c/\(G L)<=c/\∀ j (h:j<G L),w.cell? (a.add j)=some (.string ⟨(L[j]).toArray⟩))
def lz (f:Nat) (l:By) (k:Nat) (t:By) (p:Nat) (h:(t,p)∈(bW f l k).1):∃ c r,t=c::r/\c≠63/\c≠78:=by
 induction f generalizing l k with
 | zero=>simp [bW] at h
 | succ f e=>
  match l with
  | []=>simp [bW] at h
  | c::r=>
   unfold bW at h;split at h
   ·exact e _ _ h
   ·split at h
    ·rename_i a;simp only [bQ,mI] at h;rcases h with ⟨rfl,rfl⟩|h
     ·have o:=nD c r;obtain ⟨n,j⟩:∃ n,rowLen (c::r)=n+1:=⟨rowLen (c::r) - 1,ae⟩;rw [j,yn] at a ⊢;refine ⟨c,_,rfl,?_⟩;have b:∀ d:UInt8,cT d=false->fF d=false->b5 (d::List.take n r) iV=false->d≠c:=by
       rintro d g i m rfl;unfold di at a;rw [show headD (d::List.take n r)=cT d from rfl,show j6 (d::List.take n r)=fF d from rfl,g,i,m] at a;simp at a
      exact ⟨(b 63 ai ai (by simp [b5,iV])).symm,(b 78 ai ai (by simp [b5,iV])).symm⟩
     ·exact e _ _ h
    ·simp at h
def fT (f:Nat) (l:By) (k:Nat):(bW f l k).1.length<=f:=by
 induction f generalizing l k with
 | zero=>simp [bW]
 | succ f a=>
  match l with
  | []=>simp [bW]
  | c::r=>
   unfold bW;split
   ·exact Nat.le_succ_of_le (a _ _)
   ·split
    ·simp only [gS];exact Nat.succ_le_succ (a _ _)
    ·simp
def iU (s:By) (w:zW) (ts:List (By × Nat)) (d:(G s)<=1000) (h:aI s=(ts,none)) :
  zC prog 51 #[zG s] w λe w'=>∃ v,e=.returned (.tuple #[v,zI (-1)])/\w'.ownsRow w.heap.size 118 2 v (G ts) (dt ts)/\zB w w':=by
 refine (Fl s w d).m λe w' c=>?_;obtain ⟨_,a,f⟩:=c;rw [h] at a;obtain ⟨v,b,g⟩:=a rfl;exact ⟨v,b,g,f⟩
def vS (s:By) (w:zW) (p:Nat) (b:(G s)<=1000) (h:(aI s).2=some p) :
  zC prog 51 #[zG s] w λe w'=>e=.returned (.tuple #[zN,zI p])/\zB w w':=
 (Fl s w b).m λ_ _ a=>⟨a.1 p h,a.2.2⟩
def rY (ts:List (By × Nat)) (j:Nat) (h:j<G ts):(dt ts)[j*2]?=some (.string ⟨ts[j].1.toArray⟩)/\(dt ts)[j*2+1]?=some (zI (ts[j].2:Int)):=by
 induction ts generalizing j with
 | nil=>simp at h
 | cons t ts a=>
  have b:dt (t::ts)=.string ⟨t.1.toArray⟩::zI (t.2:Int)::dt ts:=by simp [dt]
  rw [b];cases j with
  | zero=>simp
  | succ j=>
   have:=a j jP;rw [show (j+1)*2=j*2+1+1 from ae];simpa using this
def pQ {w:zW} {B:Nat} {v:zV} {ts:List (By × Nat)} (h:w.ownsRow B 118 2 v (G ts) (dt ts)) :
  ∃ c a,v=.slice c (G ts) a/\∀ j (b:j<G ts),∃ g,c=some ⟨g,0,none⟩/\w.cell? ⟨g,j*2,none⟩=some (.string ⟨ts[j].1.toArray⟩)/\w.cell? ⟨g,j*2+1,none⟩=some (zI (ts[j].2:Int)):=by
 rcases h.2 with ⟨rfl,d⟩|⟨g,a,f,rfl,k,e,i⟩
 ·refine ⟨none,0,by rw [d],λj b=>ae⟩
 ·refine ⟨some ⟨g,0,none⟩,a,rfl,λj b=>⟨g,rfl,?_,?_⟩⟩
  ·rw [h.cellAt (j*2) ae];exact (rY ts j b).1
  ·rw [h.cellAt (j*2+1) ae];exact (rY ts j b).2
def cP (len n:Nat) (x:By) (K:List By) (ts:List (By × Nat)) (t:By) (p:Nat) (h:(ts=[]/\t=[]/\p=len)\/∃ r,ts=(t,p)::r) :
  cF len (n+1) (x::K) ts=if x=fj then some (4,p) else match dT x t with
   | some m=>cF len n (m++K) ts
   | none=>if (if x=cE then bm t else decide (t≠[])&&decide (x=t)) then cF len n K ts.tail else some (3,p):=by
 rcases h with ⟨rfl,rfl,rfl⟩|⟨r,rfl⟩<;>rfl
def qB (m:List By):(strs m).length=G m*1:=by simp [strs]
def qC (m:List By) (u:zV) (h:u∈strs m):u.oneCell'=true:=by
 simp [strs] at h;obtain ⟨x,_,rfl⟩:=h;rfl
def ll.below {w w':zW} {v:zV} {L:List By} (h:ll w v L) (i:zB w w'):ll w' v L:=by
 rcases h with h|⟨e,a,c,g,f,d⟩
 ·exact Or.inl h
 ·exact Or.inr ⟨e,a,c,g,f,λj b=>(i.cell (gI w _ (d j b))).t (d j b)⟩
def ll.own {w:zW} {B:Nat} {v:zV} {L:List By} (h:Own w B v L):ll w v L:=by
 rcases h.2 with ⟨rfl,b⟩|⟨g,c,e,rfl,f,d,a⟩
 ·exact Or.inl ⟨zE.1 b,none,0,rfl⟩
 ·cases L with
  | nil=>exact Or.inl ⟨rfl,_,_,rfl⟩
  | cons x L=>
   refine Or.inr ⟨aq,_,_,rfl,a.1,λj hj=>?_⟩;exact h.cells (g:=g) rfl j _ agF
def UG (s:By) (w:zW) (res:Int × Nat) (e:Ending) (w':zW):Prop:=
 ∃ v,e=.returned (.tuple #[v,zI res.1,zI (res.2:Int)])/\w'.ownsRow w.heap.size 118 2 v (aI s).1.length (dt (aI s).1)/\zB w w'
def ea (w:zW) (v:zV) (ts:List (By × Nat)):Prop:=∃ (b:Option zD) (a o:Nat),v=.slice b (G ts) a/\(G ts)<=a/\∀ j (c:j<G ts),∃ g,b=some ⟨g,o,none⟩/\w.cell? ⟨g,o+j*2,none⟩=some (.string ⟨ts[j].1.toArray⟩)/\w.cell? ⟨g,o+j*2+1,none⟩=some (zI (ts[j].2:Int))
def Ho (ts:List (By × Nat)) (v:zV) (w:zW) (D:ea w v ts) (F:(G ts)<=1000)
  (x:∀ t p,(t,p)∈ts->t≠[]/\(G t)<=19) :
  zC prog 54 #[v] w λe w'=>e=.returned (.string ⟨(bV ts (G ts)).toArray⟩)/\zB w w':=by
 obtain ⟨H,E,o,rfl,-,s⟩:=D;have z:=I s;have A:=I x;have n:=I (λk=>pZ ts (λt p h=>(x t p h).2) k);clear s x;go_in;go_wp2;go_loopw [3,4] (λo i wr=>∃ k:Nat,k<=G ts/\i=zI k/\o=.string ⟨(bV ts k).toArray⟩/\zB w wr) (λ_ i _=>G ts - (intOf i).toNat)
 case atStart=>exact ⟨0,bE _,rfl,rfl,aM _ _⟩
 case round=>
  obtain ⟨k,y,rfl,rfl,hb⟩:=hrel;have hsz:=hb.size;have l:=n.o k;by_cases c:k<G ts
  ·obtain ⟨g,rfl,a,u⟩:=z.o k c;have b:=(hb.cell (gI w _ a)).t a;have f:=A.o ts[k].1 ts[k].2 (bt c);have HS:=I (x8 ts k c);clear u
   match k,c,y,b,f,HS,l,a with
   | 0,c,y,b,f,HS,l,a=>
    rw [K6] at HS;simp only [jC,k7] at b;clear a;generalize ts[0].1=t at *;cases d:b5 t kq
    ·exact Wk
    ·exact Wk
   | k+1,c,y,b,f,HS,l,a=>
    obtain ⟨C,GU,m,_⟩:=z.o k ae;obtain rfl:g=C:=Cq;have r:=(hb.cell (gI w _ m)).t m;have B:g<wr.heap.size:=gI wr _ r;have HQ:=I (A.o (ts[k]'ae).1 (ts[k]'ae).2 (bt ae)).1;rw [Ap ts k ae] at HS;clear a m GU;generalize (ts[k]'ae).1=q at *;generalize ts[k+1].1=t at *;cases d:b5 t kq
    ·by_cases hcm:t=[44]<;>by_cases nN:t=[110,111,116]
     ·subst hcm;simp at nN
     ·have zH:(t == [44])=true:=Mp;have HP:=I (show cM (some q) t=t++[32] by unfold cM;rw [aA (by simp [d])];simp [hcm]);clear hcm nN;exact BN
     ·have zH:(t == [44])=false:=bo.2 hcm;have Jl:(t == [110,111,116])=true:=Mr;have HP:=I (show cM (some q) t=t++[32] by unfold cM;rw [aA (by simp [d])];simp [nN]);clear hcm nN;exact BN
     ·have zH:(t == [44])=false:=bo.2 hcm;have Jl:(t == [110,111,116])=false:=bo.2 nN;have HP:=I (show cM (some q) t=dy t by unfold cM;rw [aA (by simp [d])];simp [hcm,nN]);exact WB
    ·cases hbh:zT q
     ·by_cases hcm:t=[44]<;>by_cases nN:t=[110,111,116]
      ·subst hcm;simp at nN
      ·have zH:(t == [44])=true:=Mp;have HP:=I (show cM (some q) t=t++[32] by unfold cM;rw [aA Oh];simp [hcm]);clear hcm nN;exact BN
      ·have zH:(t == [44])=false:=bo.2 hcm;have Jl:(t == [110,111,116])=true:=Mr;have HP:=I (show cM (some q) t=t++[32] by unfold cM;rw [aA Oh];simp [nN]);clear hcm nN;exact BN
      ·have zH:(t == [44])=false:=bo.2 hcm;have Jl:(t == [110,111,116])=false:=bo.2 nN;have HP:=I (show cM (some q) t=dy t by unfold cM;rw [aA Oh];simp [hcm,nN]);exact WB
     ·have HP:=I (show cM (some q) t=[32]++t++[32] by unfold cM;rw [aB (by simp [tK,d,hbh])]);exact BN
  ·obtain rfl:k=(G ts):=ae;go_wp2;go_ret;exact ⟨rfl,hb⟩
def qM {w:zW} {B:Nat} {v:zV} {ts:List (By × Nat)} (h:w.ownsRow B 118 2 v (G ts) (dt ts)):ea w v ts:=by
 obtain ⟨f,a,rfl,i⟩:=pQ h;refine ⟨f,a,0,rfl,?_,λj d=>?_⟩
 ·rcases h.2 with ⟨l,b⟩|⟨g,c,m,b,_,_,k,_⟩
  ·injection l with _ n o;omega
  ·cases b;exact k
 ·obtain ⟨g,e,c0,c1⟩:=i j d;exact ⟨g,e,by rw [cS];exact c0,by rw [cS];exact c1⟩
def Q8 (ts:List (By × Nat)) (v:zV) (B:Nat) (w:zW) (a:w.ownsRow B 118 2 v (G ts) (dt ts)) (c:(G ts)<=1000)
  (b:∀ t p,(t,p)∈ts->t≠[]/\(G t)<=19) :
  zC prog 54 #[v] w λe w'=>e=.returned (.string ⟨(bV ts (G ts)).toArray⟩)/\zB w w':=Ho ts v w (qM a) c b
def Ht (L:List By):Prop:=∀ x,x∈L->pn x\/x=cE
def CK (s:By) (L0:List By) (v0:zV) (w:zW) (hl:(G s)<=1000) (hL0:ll w v0 L0) (hlen:(G L0)<=10) (hg:Ht L0) (n0:Nat) (hn0:n0<=1000010) (res:Int × Nat)
  (hno:(aI s).2=none) (C:cF (G s) n0 L0 (aI s).1=some res) :
  zC prog 53 #[zG s,v0] w (UG s w res):=by
 have HG:=λt p (h:(t,p)∈(aI s).1)=>lz _ _ _ t p h;have HG:=I HG;have TT:(aI s).1.length<=(G s):=fT _ _ _;generalize hts:aI s=tse at *;obtain ⟨ts,en⟩:=tse;simp only at hno C TT;subst hno;have HTS:=I hts;have amo:=I C;have HL0:=I hL0;have HAG:=I hg;clear hts C hL0 hg;obtain ⟨i0,hi,hz0,hz1,hz2⟩:=fe yU;go_in;go_wp2_with (go_at_call 51;refine mo (iU s _ ts hl HTS.o) ?_;rintro e w1 ⟨v,rfl,W,hb1⟩);apply I;obtain ⟨ao,cap,rfl,yR⟩:=pQ W;have HC:=I yR;have HO:=I W;have hs1:=hb1.size;clear yR W;go_wp2;go_loopg [1,9] n0 (λk want i wr=>∃ (L:List By) (j:Nat),ll wr want L/\i=zI j/\j<=G ts/\cF (G s) k L (ts.drop j)=some res/\Ht L/\(G L)+8*k<=8*n0+10/\zB w1 wr)
 case atStart=>exact ⟨L0,0,HL0.o.below hb1,rfl,bE _,by simpa using amo.o,HAG.o,ae,aM _ _⟩
 case round=>
  obtain ⟨L,j,J,rfl,hj,C,O,T,hbr⟩:=hrel;have D:=I C;clear C;have D5:=hbr.size;have iL:=I (show wr.ownsRow w.heap.size 118 2 (.slice ao (G ts) cap) (aI s).1.length (dt (aI s).1) by rw [HTS.o];exact aZ HO.o hbr)
  match gk,D with
  | 0,D=>have:=D.o;simp [cF] at this
  | gk+1,D=>
  match L,J,O,T,D with
  | [],J,O,T,D=>
   obtain ⟨ax,cx,rfl⟩:∃ ao c,u1=.slice ao 0 c:=by
    rcases J with ⟨_,h⟩|⟨h,_⟩
    ·exact h
    ·exact absurd rfl h
   clear J O;by_cases l:j<G ts
   ·obtain ⟨g,rfl,H,n⟩:=HC.o j l;have Y:=(hbr.cell (gI w1 _ n)).t n;have oP:=I (show some ((3:Int),ts[j].2)=some res by have:=D.o;rw [jL l] at this;exact this);go_wp2
    go_quiet (fail)
    go_wp2
    go_ret3
    have:=oP.o;simp at this;subst this;exact ⟨_,rfl,iL.o,(hb1.t (hbr.m hs1)).t ⟨rfl,rfl,rfl,aG _,λ_ _=>rfl⟩⟩
   ·have oP:=I (show some ((0:Int),0)=some res by have:=D.o;rw [nY ae] at this;exact this);exact W5
  | x::K,J,O,T,D=>
   obtain ⟨ax,cx,rfl,hcx,hcw⟩:∃ a c,u1=.slice (some a) (x::K).length c/\(x::K).length<=c/\∀ j (h:j<(x::K).length),wr.cell? (a.add j)=some (.string ⟨((x::K)[j]).toArray⟩):=by
    rcases J with ⟨h,_⟩|⟨_,h⟩
    ·cases h
    ·exact h
   have hw0:wr.cell? ax=some (zG x):=by have:=hcw 0 aq;rwa [show ax.add 0=ax from Ov] at this
   have V8:=I hcw;have hgo:pn x\/x=cE:=O x aq;have HAK:=I (show Ht K from λy hy=>O y (by simp [hy]));clear J O hcw;simp only [gS] at T hcx ⊢;rcases hgo.symm with hxn|f
   ·subst hxn;have R:dT cE=λ_=>none:=by funext t;exact jl 78 _ t ai
    have b:cE≠fj:=ai;have wR:((cE:By) == [63,33])=false:=ai;have hn2:((cE:By) == [78,65,77,69])=true:=ai;by_cases l:j<G ts
    ·obtain ⟨g,rfl,H,n⟩:=HC.o j l;have amp:=(hbr.cell (gI w1 _ H)).t H;have Y:=(hbr.cell (gI w1 _ n)).t n;have U:=I (HG.o ts[j].1 ts[j].2 (bt l));have d:=I (show (ts.drop j=[]/\ts[j].1=[]/\ts[j].2=G s)\/∃ r,ts.drop j=(ts[j].1,ts[j].2)::r from Or.inr ⟨_,jL l⟩);clear H n;generalize ts[j].1=t at *;generalize ts[j].2=p at *;obtain ⟨z,A,rfl,_,amq⟩:=U.o;have E:((cE:By) == z::A)=false:=bo.2 λh=>amq (by unfold cE at h;exact (List.cons.inj h).1.symm);have arJ:((z::A:By) == [])=false:=aq;cases Q:bm (z::A)
     ·have oP:=I (show some ((3:Int),p)=some res by have:=D.o;rw [cP _ _ _ _ _ (z::A) p d.o,aA b,R] at this;simpa [Q] using this);have X:=I Q;clear Q R;go_wp2_with (first|(go_at_call 75;refine (ue 78 [65,77,69] (z::A) _ ai).m ?_;rintro e w2 ⟨rfl,rfl⟩)|(go_at_call 76;refine (dD (z::A) _).m ?_;rw [X.o];rintro e w3 ⟨rfl,hb3⟩;have B:=I hb3;clear hb3))
      go_ret3
      have:=oP.o;simp at this;subst this;exact ⟨_,rfl,aZ iL.o B.o,(hb1.t (hbr.m hs1)).t (B.o.m (bf hs1 D5))⟩
     ·have V:=I (show cF (G s) gk K (ts.drop (j+1))=some res by
       have:=D.o;rw [cP _ _ _ _ _ (z::A) p d.o,aA b,R] at this;simpa [Q,List.tail_drop] using this)
      have X:=I Q;clear Q R;by_cases BJ:cx=1
      ·have Mn:(G K)=0:=ae;obtain rfl:=zE.1 Mn;subst BJ;go_wp2_with (first|(go_at_call 75;refine (ue 78 [65,77,69] (z::A) _ ai).m ?_;rintro e w2 ⟨rfl,rfl⟩)|(go_at_call 76;refine (dD (z::A) _).m ?_;rw [X.o];rintro e w3 ⟨rfl,hb3⟩;have B:=I hb3;clear hb3));go_roundg gk
       case measure=>omega
       case rel=>
        refine ⟨[],j+1,?_,ez,ae,V.o,(λy hy=>by cases hy),(by simp at T ⊢;omega),hbr.t (B.o.m D5)⟩;exact Or.inl ⟨rfl,_,_,rfl⟩
      ·have V7:2<=cx:=ae;go_wp2_with (first|(go_at_call 75;refine (ue 78 [65,77,69] (z::A) _ ai).m ?_;rintro e w2 ⟨rfl,rfl⟩)|(go_at_call 76;refine (dD (z::A) _).m ?_;rw [X.o];rintro e w3 ⟨rfl,hb3⟩;have B:=I hb3;clear hb3));go_roundg gk
       case measure=>omega
       case rel=>
        refine ⟨K,j+1,?_,ez,ae,V.o,HAK.o,ae,hbr.t (B.o.m D5)⟩;exact by
         cases K with
         | nil=>exact Or.inl ⟨rfl,_,_,rfl⟩
         | cons y K=>
          refine Or.inr ⟨aq,ax.add 1,cx - 1,Ov,ZH,λq hq=>?_⟩;have h:=(B.o.cell (gI wr _ (V8.o (q+1) Ol))).t (V8.o (q+1) Ol);rw [show (ax.add 1).add q=ax.add (q+1) from Q5,h];rfl
    ·have d:=I (show (ts.drop j=[]/\([]:By)=[]/\(G s)=G s)\/∃ r,ts.drop j=(([]:By),G s)::r from Or.inl ⟨nY ae,rfl,rfl⟩);have E:((cE:By) == [])=false:=ai;have PS:bm []=false:=ai;have oP:=I (show some ((3:Int),G s)=some res by have:=D.o;rw [cP _ _ _ _ _ [] (G s) d.o,aA b,R] at this;simpa [PS] using this);clear R;go_wp2_with (first|(go_at_call 75;refine (ue 78 [65,77,69] [] _ ai).m ?_;rintro e w2 ⟨rfl,rfl⟩)|(go_at_call 76;refine (dD [] _).m ?_;rw [PS];rintro e w3 ⟨rfl,hb3⟩;have B:=I hb3;clear hb3))
     go_ret3
     have:=oP.o;simp at this;subst this;exact ⟨_,rfl,aZ iL.o B.o,(hb1.t (hbr.m hs1)).t (B.o.m (bf hs1 D5))⟩
   ·by_cases l:j<G ts
    ·obtain ⟨g,rfl,H,n⟩:=HC.o j l;have amp:=(hbr.cell (gI w1 _ H)).t H;have Y:=(hbr.cell (gI w1 _ n)).t n;have U:=I (show zk ts[j].1 from Or.inr (HG.o ts[j].1 ts[j].2 (bt l)));have d:=I (show (ts.drop j=[]/\ts[j].1=[]/\ts[j].2=G s)\/∃ r,ts.drop j=(ts[j].1,ts[j].2)::r from Or.inr ⟨_,jL l⟩);clear H n;generalize ts[j].1=t at *;generalize ts[j].2=p at *;by_cases b:x=fj
     ·subst b;have oP:=I (show some ((4:Int),p)=some res by have:=D.o;rw [cP _ _ _ _ _ t p d.o,aB rfl] at this;exact this);exact Y6
     ·have hxb:(x == [63,33])=false:=bo.2 b;cases M:dT x t with
      | some m=>
       have P:=I M;have wK:=I (show cF (G s) gk (m++K) (ts.drop j)=some res by have:=D.o;rw [cP _ _ _ _ _ t p d.o,aA b,M] at this;exact this);have HGM:=I (vX x t f b U.o m M);have hml:=vY x t m M;clear M;go_wp2_with (go_at_call 75;refine mo (ly x t _ f b) ?_;rintro e w2 ⟨N,S⟩;obtain ⟨v2,rfl,hv2,hb2⟩:=N m P.o;clear N S);apply I;rcases hv2.2 with ⟨rfl,hm0⟩|⟨g2,Q2,amr,rfl,hg2,agn,Q1⟩
       ·exact Wb
       ·exact V4
      | none=>
       have P:=I M;have F:=I (show x≠cE from by
        rcases f with ⟨c,r,rfl,hc⟩|rfl|rfl|⟨k,o,hk,ho,rfl⟩
        ·exact hc.2
        ·decide
        ·decide
        ·intro h;simp [aH,cE] at h)
       have ams:(x == [78,65,77,69])=false:=bo.2 F.o;have Z:(x == cE)=false:=bo.2 F.o;clear M;cases t with
       | nil=>
        have oP:=I (show some ((3:Int),p)=some res by have:=D.o;rw [cP _ _ _ _ _ [] p d.o,aA b,P.o] at this;simpa [F.o] using this);go_wp2_with (go_at_call 75;refine (ly x [] _ f b).m ?_;rintro e w2 ⟨N,S⟩;obtain ⟨rfl,rfl⟩:=S P.o;clear N)
        go_ret3
        have:=oP.o;simp at this;subst this;exact ⟨_,rfl,iL.o,hb1.t (hbr.m hs1)⟩
       | cons z A=>
        by_cases E:x=z::A
        ·have amt:(x == z::A)=true:=by simp [E]
         have V:=I (show cF (G s) gk K (ts.drop (j+1))=some res by
          have:=D.o;rw [cP _ _ _ _ _ (z::A) p d.o,aA b,P.o] at this;have hn':(z::A:By)≠cE:=E▸F.o;simpa [hn',E,List.tail_drop] using this)
         clear E;by_cases BJ:cx=1
         ·have Mn:(G K)=0:=ae;obtain rfl:=zE.1 Mn;subst BJ;go_wp2_with (go_at_call 75;refine (ly x (z::A) _ f b).m ?_;rintro e w2 ⟨N,S⟩;obtain ⟨rfl,rfl⟩:=S P.o;clear N);go_roundg gk
          case measure=>omega
          case rel=>
           refine ⟨[],j+1,?_,ez,ae,V.o,(λy hy=>by cases hy),(by simp at T ⊢;omega),hbr⟩;exact Or.inl ⟨rfl,_,_,rfl⟩
         ·have V7:2<=cx:=ae;go_wp2_with (go_at_call 75;refine (ly x (z::A) _ f b).m ?_;rintro e w2 ⟨N,S⟩;obtain ⟨rfl,rfl⟩:=S P.o;clear N);go_roundg gk
          case measure=>omega
          case rel=>
           refine ⟨K,j+1,?_,ez,ae,V.o,HAK.o,ae,hbr⟩;exact by
            cases K with
            | nil=>exact Or.inl ⟨rfl,_,_,rfl⟩
            | cons y K=>
             refine Or.inr ⟨aq,ax.add 1,cx - 1,Ov,ZH,λq hq=>?_⟩;have h:=V8.o (q+1) Ol;rw [show (ax.add 1).add q=ax.add (q+1) from Q5,h];rfl
        ·have amt:(x == z::A)=false:=bo.2 E;have SS:=E;have oP:=I (show some ((3:Int),p)=some res by have:=D.o;rw [cP _ _ _ _ _ (z::A) p d.o,aA b,P.o] at this;simpa [F.o,SS] using this);clear SS E;go_wp2_with (go_at_call 75;refine (ly x (z::A) _ f b).m ?_;rintro e w2 ⟨N,S⟩;obtain ⟨rfl,rfl⟩:=S P.o;clear N)
         go_ret3
         have:=oP.o;simp at this;subst this;exact ⟨_,rfl,iL.o,hb1.t (hbr.m hs1)⟩
    ·have U:=I (show zk [] from Or.inl rfl);have d:=I (show (ts.drop j=[]/\([]:By)=[]/\(G s)=G s)\/∃ r,ts.drop j=([],G s)::r from Or.inl ⟨nY ae,rfl,rfl⟩);by_cases b:x=fj
     ·subst b;have oP:=I (show some ((4:Int),G s)=some res by have:=D.o;rw [cP _ _ _ _ _ [] (G s) d.o,aB rfl] at this;exact this);exact Y6
     ·have hxb:(x == [63,33])=false:=bo.2 b;cases M:dT x [] with
      | some m=>
       have P:=I M;have wK:=I (show cF (G s) gk (m++K) (ts.drop j)=some res by have:=D.o;rw [cP _ _ _ _ _ [] (G s) d.o,aA b,M] at this;exact this);have HGM:=I (vX x [] f b U.o m M);have hml:=vY x [] m M;clear M;go_wp2_with (go_at_call 75;refine mo (ly x [] _ f b) ?_;rintro e w2 ⟨N,S⟩;obtain ⟨v2,rfl,hv2,hb2⟩:=N m P.o;clear N S);apply I;rcases hv2.2 with ⟨rfl,hm0⟩|⟨g2,Q2,amr,rfl,hg2,agn,Q1⟩
       ·exact Wb
       ·exact V4
      | none=>
       have P:=I M;have F:=I (show x≠cE from by
        rcases f with ⟨c,r,rfl,hc⟩|rfl|rfl|⟨k,o,hk,ho,rfl⟩
        ·exact hc.2
        ·decide
        ·decide
        ·intro h;simp [aH,cE] at h)
       have ams:(x == [78,65,77,69])=false:=bo.2 F.o;have Z:(x == cE)=false:=bo.2 F.o;clear M;have oP:=I (show some ((3:Int),G s)=some res by have:=D.o;rw [cP _ _ _ _ _ [] (G s) d.o,aA b,P.o] at this;simpa [F.o] using this);go_wp2_with (go_at_call 75;refine (ly x [] _ f b).m ?_;rintro e w2 ⟨N,S⟩;obtain ⟨rfl,rfl⟩:=S P.o;clear N)
       go_ret3
       have:=oP.o;simp at this;subst this;exact ⟨_,rfl,iL.o,hb1.t (hbr.m hs1)⟩
def nc (w:zW) (a:By) (err:Int) (at_:Nat) (e:Ending) (w':zW):Prop:=
 e=.returned (.tuple #[zG a,zI err,zI at_])/\zB w w'
def acw (s:By) (w:zW) (h:120<G s):zC prog 80 #[zG s] w (nc w [] 1 0):=by
 go_in;go_wp2
 go_ret3
 exact ⟨rfl,aM _ _⟩
def K8 (s:By) (v0:zV) (w:zW) (p:Nat) (c:(G s)<=1000) (a:(aI s).2=some p) :
  zC prog 53 #[zG s,v0] w λe w'=>e=.returned (.tuple #[zN,zI 2,zI p])/\zB w w':=by
 have d:=I a;clear a;go_in;go_wp2_with (go_at_call 51;refine (vS s _ p c d.o).m ?_;rintro e w1 ⟨rfl,b⟩)
 go_ret3
 exact ⟨rfl,kM⟩
def afj (s:By) (w:zW) (p:Nat) (d:(G s)<=120) (b:(aI s).2=some p):zC prog 80 #[zG s] w (nc w [] 2 p):=by
 have c:=I b;clear b;go_in;go_wp2_with (go_at_call 53;refine (K8 s _ _ p ae c.o).m ?_;rintro e w1 ⟨rfl,a⟩)
 go_ret3
 exact ⟨rfl,(bZ _).t (a.m aq)⟩
def afk (s:By) (w:zW) (ts:List (By × Nat)) (o:(G s)<=120) (b:aI s=(ts,none)) (f:Nat) (l:f<=1000000) (err:Int) (p:Nat)
  (a:cF (G s) f [aH 82 0] ts=some (err,p)) (he:err≠0):zC prog 80 #[zG s] w (nc w [] err p):=by
 have d:cF (G s) f [aH 82 0] (aI s).1=some (err,p):=by rw [b];exact a
 have c:(aI s).2=none:=by rw [b]
 have j:=I (λ(k:zW)=>CK s [aH 82 0] _ _ ae (ll.own (nz k [aH 82 0] aq)) aq (λx n=>Or.inl (ox (iG 82 0 ai ai) x n)) f ae (err,p) c d);have m:(err == 0)=false:=bo.2 he;have h:(err != 0)=true:=rh;clear a d c b he;go_in;go_wp2_with (go_at_call 53;refine (j.o _).m ?_;rintro e w1 ⟨v,rfl,i,g⟩)
 go_ret3
 exact ⟨rfl,(bZ _).t (g.m aq)⟩
def acx (s:By) (w:zW) (ts:List (By × Nat)) (y:(G s)<=120) (a:aI s=(ts,none)) (j:Nat) (o:j<=1000000)
  (d:cF (G s) j [aH 82 0] ts=some (0,0)) :
  zC prog 80 #[zG s] w (if 100<(bV ts (G ts)).length then nc w [] 7 0 else nc w (bV ts (G ts)) 0 0):=by
 have i:cF (G s) j [aH 82 0] (aI s).1=some (0,0):=by rw [a];exact d
 have g:(aI s).2=none:=by rw [a]
 have m:(G ts)<=(G s):=by have:=fT (G s) s 0;rw [show bW (G s) s 0=(ts,none) from a] at this;exact this
 have f:∀ t p,(t,p)∈ts->t≠[]/\(G t)<=19:=by
  intro t p h;have k:(t,p)∈(bW (G s) s 0).1:=by rw [show bW (G s) s 0=(ts,none) from a];exact h
  obtain ⟨c,r,q,_⟩:=lz _ _ _ t p k;exact ⟨by rw [q];simp,pW _ _ _ t p k⟩
 have l:=pZ ts (λt p h=>(f t p h).2) (G ts);have HR:=I (λ(n:zW)=>CK s [aH 82 0] _ _ ae (ll.own (nz n [aH 82 0] aq)) aq (λx u=>Or.inl (ox (iG 82 0 ai ai) x u)) j ae (0,0) g i);have HGL:=I f;have HTS:=I (show (aI s).1=ts by rw [a]);clear d i g a f;by_cases b:100<(bV ts (G ts)).length
 ·rw [aB b];exact WK
 ·rw [aA b];exact WK
end
end Go.Proofs.YtihgojcfpnhelaaGreatDoor
