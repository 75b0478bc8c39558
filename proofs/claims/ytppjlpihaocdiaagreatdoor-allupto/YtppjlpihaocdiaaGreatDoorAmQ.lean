import Derived.Test.YtppjlpihaocdiaaGreatDoorAlQ
import Derived.Test.YtppjlpihaocdiaaGreatDoorAgQ
set_option linter.all false
set_option maxRecDepth 100000
set_option maxHeartbeats 16000000
namespace Go.Proofs.YtppjlpihaocdiaaGreatDoor
open Go.RowKit Go.Proofs.Tryz
variable{w u v:ae}{a b c d e:Nat}{s t:ag}{x y z:af}{p D:Int}{l:List af}{f:Bool}{g:List Nat}{h:Nat->Prop}{o:Option Addr}{r:List UInt8}{A:Nat->Bool}{B:Nat->Nat->Bool}{C:Nat->Nat->Prop}(i:Nat)(S T:ag)(V X:af)(j k m n:Nat)(Z:Int)(W:ae)
def Dr.drewN{b:bs}(c:Dr w a s b x h)(d:Nat):Dr (w.drewN d) a s b x h:=
 c.grow ⟨rfl,rfl,rfl,ah,λ_ _=>rfl⟩
def Qzf.set{d v:af}{xs:List af}{c:List Nd}(f:Qzf w a d xs c h):Qzf (w.setCell (O a b) v) a d xs c h:=f.of λg _ e _ _=>er _ _ _ _ e
def Dr.ux{c:bs}(k:Dr w a s c x h){v:Int}(b:Nat)(g:v=b:=by omega)(i:b<=s.size:=by omega):Dr (w.setCell (O a 4)<|I v) a s ⟨b,c.g,c.l⟩ x h:=by
 let⟨o,p,q,r,t,u,y,z,A,n,e,xs,d,f⟩:=k;subst g;have j:(w.setCell (O a 4)<|I b).ownsRow (a+1) 271 261 x c.l.length xs:=Qqo d λm l=>er _ _ _ _ (by have:=(d.lt m l).1;simp only;omega)
 exact⟨qI,qI,qI,qI,qI,qI,qI,qI,qI,i,e,xs,j,f.set⟩
def Dr.Iy{b:bs}(j:Dr w a s b x h){v:Int}(c:Nat)(g:v=c:=by omega):Dr (w.setCell (O a 1)<|I v) a s ⟨b.H,c,b.l⟩ x h:=by
 let⟨n,o,p,q,r,t,u,y,z,i,e,xs,d,f⟩:=j;subst g;have k:(w.setCell (O a 1)<|I c).ownsRow (a+1) 271 261 x b.l.length xs:=Qqo d λm l=>er _ _ _ _ (by have:=(d.lt m l).1;simp only;omega)
 exact⟨qI,qI,qI,qI,qI,qI,qI,qI,qI,i,e,xs,k,f.set⟩
def eh.drewN(b:eh a w u)(c:Nat):eh a w (u.drewN c):=b.trans ⟨rfl,rfl,rfl,rfl,λ_ _=>rfl⟩
def Iq(e:bs)(j:Nat->Prop)(a:ag)(o:af)(g:Nat)(f:ae)(l:Dr f i a e o j):
  Calls prog 212 #[.pointer<|some ⟨i,0,none⟩,.int .u8 g] f λk t=>k=.returned (.bool<|decide (pk a e.H=(g:Int)))/\∃n,t=f.drewN n:=by
 let⟨b,y,z⟩:=e;let⟨h,c,m,x,p,q,r,s,u,v,w,d⟩:=l;simp only at c p v;by_cases d:b<a.size
 .have c:=J<|fh d;have h:((a[b]).toNat:Int)=(au a b:Int):=oz a b d;have m:(0:Int)<=b:=Q
  have q:(b:Int)<a.size:=Q
  generalize au a b=r at h c;go_in;go_wp21;go_quiet (fail);go_wp21;go_ret;refine⟨pp ?_,_,rfl⟩;rw[c.out];rfl
 have c:=J<|qj d
 go_in;go_wp21;go_quiet (fail);go_wp21;go_ret;refine⟨pp ?_,_,rfl⟩;rw[c.out];simp
def Qqh(c:bs)(l:Nat->Prop)(b:ag)(p:af)(f:ae)(q:Dr f i b c p l)(o:c.H<b.size)(h:au b c.H=92->c.H+1<b.size):
  Calls prog 268 #[.pointer<|some ⟨i,0,none⟩] f λm r=>m=.returned (.int .i64 ((hy b c.H).1:Nat))/\Dr r i b ⟨(hy b c.H).2,c.g,c.l⟩ p l/\eh i f r:=by
 have j:=q;let⟨a,H,K⟩:=c;let⟨t,d,e,z,u,g,k,n,A,v,y,s⟩:=q;simp only at d u v o h j|-;have s:((b[a]).toNat:Int)=(au b a:Int):=oz b a o;have B:(0:Int)<=a:=Q
 have C:(a:Int)<b.size:=Q
 by_cases d:au b a=92
 .have e:Y (hy b a=(val<|au b<|a+1,a+2)):=by rw[hy,Y,G d]
  have n:=h d;have x:((b[a+1]).toNat:Int)=(au b (a+1):Int):=oz b (a+1) n;have g:=ms b<|a+1;have w:Y ((b[a+1]'n).toNat=au b (a+1)):=J Q
  have D:(0:Int)<=a+1:=Q
  have E:(a:Int)+1<(b.size:Int):=Q
  rw[d]at s;generalize k:au b (a+1)=t at e x g w;go_in;go_wp21;go_quiet (fail);go_wp21;go_quiet (fail);go_wp21;go_call Ew as m F ⟨rfl,rfl⟩;go_wp21;go_ret;rw[e.out];refine⟨rfl,?_,?_⟩
  .exact((((j.drewN _).ux (v:=(a:Int)+1) (a+1)).drewN _).ux (v:=(a:Int)+1+1) (a+2))
  exact(eh.drewN ((eh.drewN (eh.refl i f) _).setCell 4 _) _).setCell 4 _
 have e:Y (hy b a=(au b a,a+1)):=by rw[hy,Y,N d]
 have n:((au b a:Int)==92)=false:=qB
 have g:=ms b a;generalize k:au b a=t at e s n g;go_in;go_wp21;go_quiet (fail);go_wp21;go_ret;rw[e.out];refine⟨Lu<|by simp only,?_,?_⟩
 .exact(j.drewN _).ux (v:=(a:Int)+1) (a+1)
 exact(eh.drewN (eh.refl i f) _).setCell 4 _
