import Derived.Test.YtppjlpihaocdiaaGreatDoorAoQ
set_option linter.all false
set_option maxRecDepth 100000
set_option maxHeartbeats 16000000
namespace Go.Proofs.YtppjlpihaocdiaaGreatDoor
open Go.RowKit Go.Proofs.Tryz
variable{w u v:ae}{a b c d e:Nat}{s t:ag}{x y z:af}{p D:Int}{l:List af}{f:Bool}{g:List Nat}{h:Nat->Prop}{o:Option Addr}{r:List UInt8}{A:Nat->Bool}{B:Nat->Nat->Bool}{C:Nat->Nat->Prop}(i:Nat)(S T:ag)(V X:af)(j k m n:Nat)(Z:Int)(W:ae)
def aa2(b:List UInt8)(a:UInt8):bv (b++[a])=bv b++[.int .u8 a.toNat]:=by simp[bv]
def Ic(a b:List UInt8):bv (a++b)=bv a++bv b:=by simp[bv]
def Bk(a:List UInt8):(bv a).length=a.length:=by simp[bv]
def jn:(Qjj S).length=S.size:=by simp[Qjj]
def Mn:Lib.strCells S=bv (Qjj S):=rfl
def Nz(a:List UInt8)(b:ae)(f:b.ownsRow i 5 1 V a.length (bv a)):(convert 99 9 V).run prog b=.ok (.string<|ce a) b:=by
 have⟨r,l⟩:=f;rcases l with⟨rfl,m⟩|⟨e,g,j,rfl,_,n,p,_,q,k⟩
 .have:a=[]:=Ex.1 m;subst this;rw[run_convert_bytes_string (P:=prog) b 99 9 5 none 0 0 underlying99 underlying5 underlying9];rfl
 exact yyt (P:=prog) b 99 9 5 (O e 0) g a underlying99 underlying5 underlying9 (λc o=>by
  have h:((O e 0):Addr).add c=(O e c):=by unfold Addr.add;split<;>simp_all
  rw[h,yya b e c j 5 (0,0) n];have d:(bv a)[c]?=some (.int .u8 (a[c].toNat:Int)):=by simp[bv,dy o]
  rw[<-k,Cg]at d;split at d
  .simpa using d
  cases d)
def mj(b:Obj):Below W.heap.size W (W.alloc b):=⟨rfl,rfl,rfl,by simp,λc a=>im _ _ _ a⟩
def At.added{f h:ae}{k:Obj}{g:Nat}{j:Cf}{a:Ed}{d:Ev}{c:UInt8}{b i:Nat}(o:At f g j a d)
  (l:h.ownsRow 0 5 1 (aa b (a.next.length+1) i) (a.next.length+1) (bv a.next++[.int .u8 c.toNat])) (n:(f.alloc k).grownBy h d.nx.ownBlock) (m:d.nx.ownBlock=some b\/b=f.heap.size+1):
  bd h g (pb j a d)/\Aa f g j d {d with nx:= aa b (a.next.length+1) i} {a with next:=a.next++[c]} (h.setCell (O g 1)<|aa b (a.next.length+1) i):=by
 refine o.gnx (Gn.grown (mj f k) n ?_) (by rw[aa2,ga];exact l);rcases m with e|e
 .exact .inl e.symm
 exact .inr ⟨b,rfl,by omega⟩
def as8(l:Cf)(a:Ed)(j:Ev)(d:ae)(b:UInt8)(c:At d i l a j)(A:a.next.length<=70368744177664):
  Calls prog 49 #[.pointer<|some ⟨i,0,none⟩,.int .u8 b.toNat] d λf w=>f=.returned (.tuple #[])/\Ok d i l j (a.add b) w:=by
 have⟨v,r,s,t,u⟩:=yyf Ei;have x:=c.xc 1;have y:=c.cd 1;have p:=c.xc 2;have q:=c.cd 2;by_cases e:b=10
 .subst e;have h:Y (a.add 10={a with whole:=true}):=rfl;go_in;go_wp21;go_returns;refine⟨rfl,?_⟩;rw[h.out];exact c.put xxs<|jx c.row 2 _ (by omega) rfl
 have h:Y (a.add b={a with next:=a.next++[b]}):=by rw[Y,Ed.add,N e]
 have B:((b.toNat:Int)==10)=false:=by
  have:b.toNat≠10:=λf=>e<|UInt8.toNat.inj f
  simp;omega
 go_in;go_wp2_with (at_builtin;(refine wpList_append_lies _ rfl _ _ 99 rfl 0 5 v (.int .u8 0) 1 1 underlying99 r s t u rfl (by omega) j.nx a.next.length (bv a.next) rfl (c.nx.alloc _) (O d.heap.size 0) 1 1 [.int .u8 b.toNat] rfl rfl (cell_one_new d _ _) (λH o=>by simp at o;subst o;rfl) (by omega) (by unfold maxLen;omega) (by omega) (by omega) (d.heap.size+1) (by simp) ?_;intro C z D m k n g;have g:=J<|c.added m k n;have E:=g.1.xc 1;have F:=g.1.frozen (k:=1) (by rw[Eb];omega);clear m k n x y p q));go_returns;exact⟨rfl,by rw[h.out];exact g.2.ok⟩
def At.printed{h:Obj}{g:Cf}{d:Ed}{f:Ev}(k:At w a g d f)
  (l:w.grownBy u f.ot.ownBlock) (i:x.ownBlock=f.ot.ownBlock\/x.ownBlock=some w.heap.size)
  (j:v.ownsRow 0 5 1 (aa b (d.out.length+s.size+1) c) (d.out.length+s.size+1) (bv d.out++Lib.strCells s++[.int .u8 10])) (n:(u.alloc h).grownBy v x.ownBlock) (m:x.ownBlock=some b\/b=u.heap.size+1):
  bd v a (pb g d f)/\Aa w a g f {f with ot:= aa b (d.out.length+s.size+1) c} (d.print s) (v.setCell (O a 9)<|aa b (d.out.length+s.size+1) c):=by
 have o:Gn w u f.ot x:=Gn.grown (bp _ _) l (by
  rcases i with e|e
  .exact .inl e
  exact .inr ⟨_,e,ah⟩)
 have p:Gn u v x (aa b (d.out.length+s.size+1) c):=Gn.grown (mj u h) n (by
  rcases m with e|e
  .exact .inl e.symm
  exact .inr ⟨b,rfl,by omega⟩)
 refine k.Kl (l:=d.out++Qjj s++[10]) (o.trans p) ?_;rw[Ic,Ic,ga,ga,jn,<-Mn];exact j
def En(l:Cf)(a:Ed)(d:Ev)(e:ae)(b:ag)(c:At e i l a d)(A:a.out.length<=70368744177664:=by omega)(B:b.size<=1000000:=by omega):
  Calls prog 123 #[.pointer<|some ⟨i,9,none⟩,.string b] e λu x=>u=.returned (.tuple #[])/\∃v,Aa e i l d {d with ot:=v} (a.print b) x:=by
 have⟨h,o,p,q,r⟩:=yyf Ei;have f:=c.xc 9;have m:=c.cd 9 (by omega);go_in;go_wp2_with (at_builtin;first
  |(have g:=f;refine Zg _ rfl _ _ 99 9 rfl 0 5 h underlying99 underlying9 o p q r d.ot a.out.length (bv a.out) rfl c.ot b rfl (by unfold maxLen;omega) (by omega) (by omega) e.heap.size rfl ?_;intro s g j t k;have w:=J j;have y:=J k;clear j k f m)
  |(refine wpList_append_lies _ rfl _ _ 99 rfl 0 5 h (.int .u8 0) 1 1 underlying99 o p q r rfl (by omega) s (a.out.length+b.size) (bv a.out++Lib.strCells b) rfl (w.alloc _) (O g.heap.size 0) 1 1 [.int .u8 10] rfl rfl (cell_one_new g _ _) (λH j=>by simp at j;subst j;rfl) (by omega) (by unfold maxLen;omega) (by omega) (by omega) (g.heap.size+1) (by simp) ?_;intro C z D m k n f;have f:=J<|c.printed t y m k n;have E:=f.1.xc 9;have F:=f.1.frozen (k:=9) (by rw[Eb];omega);clear m k n))
 go_returns;exact⟨rfl,_,f.2⟩
def afs{h:TypeId}{xs:List af}(k:w.ownsRow a h b (.slice o c d) c xs):w.ownsRow a h b (.slice o 0 d) 0 []:=by
 refine⟨by simp,?_⟩;rcases k.2 with⟨e,s⟩|⟨j,r,i,e,l,m,t,n,p,u⟩
 .left;injection e with f q g;subst f;subst g;exact⟨rfl,rfl⟩
 right;injection e with f q g;subst f;subst g;exact⟨j,_,i,rfl,l,m,ey _,n,p,by simp⟩
def abj(a:Option Addr)(d c b:Nat):(Value.slice a d b).ownBlock=(Value.slice a c b).ownBlock:=by cases a<;>rfl
def El{h:TypeId}{xs:List af}(j:w.ownsRow a h b x c xs):(x=.slice none 0 0/\c=0)\/∃e f,x= aa e c f/\c<=f:=by
 rcases j.2 with⟨d,i⟩|⟨e,g,l,d,m,n,k,o,p,q⟩
 .exact .inl ⟨d,i⟩
 exact .inr ⟨e,g,d,k⟩
def At.aa9{g:Cf}{d:Ed}{e:Ev}(j:At w a g d e)(i:e.nx=.slice o b c)(l:b=d.next.length):Ok w a g e d.read (((w.setCell (O a 1)<|.slice o 0 c).setCell (O a 2)<|.bool false).setCell (O a 4)<|I<|(d.number:Int)+1):=by
 have f:=j.nx;rw[i]at f;subst l;have⟨n,k⟩:=j.gnx (w2:=w) (nv:=.slice o 0 c) (l:=[]) ⟨rfl,rfl,rfl,ah,λ_ _ _=>rfl,λq m=> .inl<|by rw[i,abj o d.next.length 0 c];exact m⟩<|afs f;refine k.ok.trans λp h=> ?_
 exact h.put (E':=d.read) (xxs.setCell _ _)<|jx (E:={d with next:=[],whole:=false}) (jx h.row 2 _ (by omega) rfl) 4 _ (by omega)<|by simp[pb,Ed.read]
def ahw(j:Cf)(b:Ed)(f:Ev)(g:ae)(a:At g i j b f)(r:b.number<=70368744177664)(s:b.next.length<=70368744177664):
  Calls prog 166 #[.pointer<|some ⟨i,0,none⟩] g λc n=>c=.returned (.string<|ce b.next)/\Ok g i j f b.read n:=by
 have d:=Nz 0 f.nx b.next g a.nx
 have k:=a.xc 1;have t:=a.cd 1;have u:=a.xc 2;have v:=a.cd 2;have w:=a.xc 4;have x:=a.cd 4;rcases El a.nx with⟨c,l⟩|⟨o,q,c,p⟩
 .have e:Y (f.nx=.slice none 0 0/\0=b.next.length):=⟨c,l.symm⟩;rw[c]at k d;generalize h:ce b.next=m at d|-
  go_in;go_wp21;go_ret;exact⟨rfl,a.aa9 e.1 e.2⟩
 have e:=J c;rw[c]at k d;generalize h:ce b.next=m at d|-
 go_in;go_wp21;go_ret;exact⟨rfl,a.aa9 e rfl⟩
def rv(w:ae)(b:Nat)(cf:Cf)(v:Ev)(E:Ed)(r:Option Ed)(e:Ending)(w':ae):Prop:=
 (r=none/\e=.returned (.bool false)/\Ok w b cf v E w')\/∃E',r=some E'/\e=.returned (.bool true)/\Ok w b cf v E' w'
def Jw(a:Cf)(c:Ed)(h:Ev)(g:ae)(b:ag)(d:At g i a c h):
  Calls prog 118 #[.pointer<|some ⟨i,5,none⟩,.string b] g (rv g i a h c<|c.kz a b):=by
 have k:=d.xc 5;have l:=d.cd 5;have m:=d.xc 6;by_cases e:a.space<b.size
 .have j:decide (a.space<b.size)=true:=by simp;omega
  have f:Y (c.kz a b=none):=by rw[Y,Ed.kz,G e]
  go_in;go_wp21;go_ret;exact .inl ⟨f,rfl,Ok.refl d⟩
 have j:decide (a.space<b.size)=false:=by simp;omega
 have f:Y (c.kz a b=some {c with L:=b}):=by rw[Y,Ed.kz,N e]
 go_in;go_wp21;go_ret;exact .inr ⟨_,f,rfl,d.put xxs<|jx d.row 5 _ (by omega) rfl⟩
def adi(a:Cf)(c:Ed)(h:Ev)(g:ae)(b:ag)(d:At g i a c h):
  Calls prog 118 #[.pointer<|some ⟨i,7,none⟩,.string b] g (rv g i a h c<|c.holds a b):=by
 have k:=d.xc 7;have l:=d.cd 7;have m:=d.xc 8;by_cases e:a.space<b.size
 .have j:decide (a.space<b.size)=true:=by simp;omega
  have f:Y (c.holds a b=none):=by rw[Y,Ed.holds,G e]
  go_in;go_wp21;go_ret;exact .inl ⟨f,rfl,Ok.refl d⟩
 have j:decide (a.space<b.size)=false:=by simp;omega
 have f:Y (c.holds a b=some {c with bt:=b}):=by rw[Y,Ed.holds,N e]
 go_in;go_wp21;go_ret;exact .inr ⟨_,f,rfl,d.put xxs<|jx d.row 7 _ (by omega) rfl⟩
def adb(d:Cf)(a:Ed)(m:Ev)(n:ae)(c:ag)(p:At n i d a m)(u:a.L.size<=1000000)(v:c.size<=4000000):
  Calls prog 203 #[.pointer<|some ⟨i,5,none⟩,.string c] n (rv n i d m a<|a.grow d c):=by
 have w:=p.xc 5;have q:∀b:ae,(Op.stringOp .add a.L ⟨#[10]⟩).run prog b=.ok (.string<|a.L++⟨#[10]⟩) b:=λb=>yzx (P:=prog) (w:=b) _ _ (by omega)<|by simp[ByteArray.size]
 have o:∀b:ae,(Op.stringOp .add (a.L++⟨#[10]⟩) c).run prog b=.ok (.string<|a.L++⟨#[10]⟩++c) b:=λb=>yzx (P:=prog) (w:=b) _ _ (by rw[uh];show(((a.L).size+1:Nat):Int)<=_;omega)<|by omega
 have h:Y (a.grow d c=a.kz d (a.L++⟨#[10]⟩++c)):=rfl;generalize a.L++(⟨#[10]⟩:ag)=r at q o h;generalize r++c=s at o h;go_in;go_wp21;go_call Jw as e y l;rw[<-h.out]at l;rcases l with⟨f,rfl,g⟩|⟨t,f,rfl,g⟩
 .have j:=J g;have k:=J f;go_wp21;go_ret;exact .inl ⟨k,rfl,j⟩
 have j:=J g;have k:=J f;go_wp21;go_ret;exact .inr ⟨t,k,rfl,j⟩
def apc(g:Cf)(a:Ed)(k:Ev)(l:ae)(c:ag)(n:At l i g a k)(t:a.bt.size<=1000000)(u:c.size<=4000000):
  Calls prog 203 #[.pointer<|some ⟨i,7,none⟩,.string c] l (rv l i g k a<|a.holds g<|a.bt++gp++c):=by
 have v:=n.xc 7;have o:∀b:ae,(Op.stringOp .add a.bt ⟨#[10]⟩).run prog b=.ok (.string<|a.bt++⟨#[10]⟩) b:=λb=>yzx (P:=prog) (w:=b) _ _ (by omega)<|by simp[ByteArray.size]
 have m:∀b:ae,(Op.stringOp .add (a.bt++⟨#[10]⟩) c).run prog b=.ok (.string<|a.bt++⟨#[10]⟩++c) b:=λb=>yzx (P:=prog) (w:=b) _ _ (by rw[uh];show(((a.bt).size+1:Nat):Int)<=_;omega)<|by omega
 have d:gp=⟨#[10]⟩:=rfl;rw[d];generalize a.bt++(⟨#[10]⟩:ag)=q at o m|-;generalize q++c=r at m|-;go_in;go_wp21;go_call adi as e y p;rcases p with⟨d,rfl,f⟩|⟨s,d,rfl,f⟩
 .have h:=J f;have j:=J d;go_wp21;go_ret;exact .inl ⟨j,rfl,h⟩
 have h:=J f;have j:=J d;go_wp21;go_ret;exact .inr ⟨s,j,rfl,h⟩
def Ux:(prog.info? 9).map (λa=>(a.zero,a.size,a.bytes))=some (some<|.string ⟨#[]⟩,1,16):=by kernel_rfl
def Dl(b:List ag)(a:ag):sv (b++[a])=sv b++[.string a]:=by simp[sv]
def At.aqg{h:Obj}{g:Cf}{d:Ed}{f:Ev}(l:At w a g d f)
  (i:u.ownsRow 0 9 1 (aa b (d.cy.length+1) c) (d.cy.length+1) (sv d.cy++[.string s])) (k:(w.alloc h).grownBy u f.cg.ownBlock) (j:f.cg.ownBlock=some b\/b=w.heap.size+1):
  bd u a (pb g d f)/\Ok w a g f {d with cy:=d.cy++[s]} (u.setCell (O a 11)<|aa b (d.cy.length+1) c):=by
 have:=l.gcg (l:=d.cy++[s]) (Gn.grown (v':= aa b (d.cy.length+1) c) (mj w h) k (by
  rcases j with e|e
  .exact .inl e.symm
  exact .inr ⟨b,rfl,by omega⟩)) (by rw[Dl,ga];exact i)
 exact⟨this.1,this.2.ok⟩
def aqf(j:Cf)(a:Ed)(f:Ev)(b:ae)(e:ag)(c:At b i j a f)(B:a.cy.length<=1099511627776):
  Calls prog 206 #[.pointer<|some ⟨i,9,none⟩,.string e] b λm u=>m=.returned (.tuple #[])/\Ok b i j f {a with cy:=a.cy++[e]} u:=by
 have⟨r,n,o,p,q⟩:=yyf Ux;have s:=c.xc 11;have t:=c.cd 11;go_in;go_wp2_with (at_builtin;(refine wpList_append_lies _ rfl _ _ 62 rfl 0 9 r (.string ⟨#[]⟩) 1 16 underlying62 n o p q rfl (by omega) f.cg a.cy.length (sv a.cy) rfl (c.cg.alloc _) (O b.heap.size 0) 1 1 [.string e] rfl rfl (cell_one_new b _ _) (λz l=>by simp at l;subst l;rfl) (by omega) (by unfold maxLen;omega) (by omega) (by omega) (b.heap.size+1) (by simp) ?_;intro v A w h g k d;have d:=J<|c.aqg h g k;have x:=d.1.xc 11;have y:=d.1.frozen (k:=11) (by rw[Eb];omega);clear h g k s t));go_returns;exact⟨rfl,d.2⟩
def Lm(a:Ed)(c:ag):∀(b:List ag)(a:Ed),(a.lp<|b++[c])=(a.lp b).print c
 | [],a=>rfl
 |x::b,a=>by simp only[List.cons_append,Ed.lp];exact Lm a c b _
def fz(l:List ag):Nat:=(l.map λt=>t.size+1).sum
def Wu:∀(b:List ag)(a:Ed),∃c,a.lp b={a with out:=c}/\c.length=a.out.length+fz b
 | [],a=>⟨a.out,rfl,by simp[fz]⟩
 |x::b,a=>by
  have⟨c,d,e⟩:=Wu b<|a.print x;refine⟨c,by rw[Ed.lp,d];rfl,?_⟩;rw[e];simp only[Ed.print,ga,jn,qx,fz,vw,List.sum_cons];omega
def Qw(a b:List ag):fz (a++b)=fz a+fz b:=by simp[fz]
def aba{f:Cf}{b:Ed}{d:Ev}{n c:Nat}(h:At w a f b d)(g:d.cg=.slice o n c)(i:n=b.cy.length):Ok w a f d {b with cy:=[]} (w.setCell (O a 11)<|.slice o 0 c):=by
 have e:=h.cg;rw[g]at e;subst i;exact(h.gcg (w2:=w) (nv:=.slice o 0 c) (l:=[]) ⟨rfl,rfl,rfl,ah,λ_ _ _=>rfl,λk j=> .inl<|by rw[g,abj o b.cy.length 0 c];exact j⟩<|afs e).2.ok
def Ww(a:Ed):∃b,a.fq={a with out:=b,cy:=[]}/\b.length=a.out.length+fz a.cy:=by
 have⟨b,c,d⟩:=Wu a.cy a;exact⟨b,by rw[Ed.fq,c],d⟩
def Wv(h:Cf)(a:Ed)(c:Ev)(f:ae)(k:At f i h a c)(y:a.out.length+fz a.cy<=70368744177664)(z:∀W∈a.cy,W.size<=1000000):
  Calls prog 75 #[.pointer<|some ⟨i,9,none⟩] f λd X=>d=.returned (.tuple #[])/\Ok f i h c a.fq X:=by
 have K:a.cy.length<=fz a.cy:=by
  have:∀b:List ag,b.length<=fz b:=λb=>by
   induction b with
   |nil=>simp[fz]
   |cons m b e=>simp only[fz,vw,List.sum_cons,xv]at e|-;omega
  exact this _
 rcases El k.cg with⟨d,A⟩|⟨v,E,d,a0⟩
 .have j:Y (c.cg=.slice none 0 0/\0=a.cy.length):=⟨d,A.symm⟩;have w:=k.xc 11;have b:=k.cd 11;rw[d]at w;have B:Y (a.fq={a with cy:=[]}):=by
   have n:=Ex.1 A;rw[Y,Ed.fq,n];rfl
  clear d A y z;go_in;go_wp21;go_loopw [9] (λm wr=>m=I 0/\wr=f) (λ_ _=>0)
  .exact⟨rfl,rfl⟩
  obtain⟨rfl,rfl⟩:=hrel;go_wp21;go_returns;exact⟨rfl,by rw[B.out];exact aba k j.1 j.2⟩
 have j:=J d;have w:=k.xc 11;rw[d]at w;have T:=J z;have U:=J y;clear d z;generalize b:a.cy.length=e at w j;have x:=J b;have a1:e<=70368744177664:=by omega
 clear b y K;go_in;go_wp21;go_loopw [9] (λm wr=>∃(b:Nat)(o:af),b<=e/\m=I b/\Y (Aa f i h c {c with ot:=o} (a.lp<|a.cy.take b) wr)) (λm _=>e+1-(intOf m).toNat)
 .exact⟨0,c.ot,by omega,rfl,k,Fe.refl _ _ _⟩
 obtain⟨b,o,a2,rfl,L⟩:=hrel;have⟨l,g,q⟩:=Wu (a.cy.take b) a;have M:Y (fz (a.cy.take b)+fz (a.cy.drop b)=fz a.cy):=by rw[Y,<-Qw,yzh]
 have C:=J g;have P:=J q;have g:Y (Aa f i h c {c with ot:=o} {a with out:=l} wr):=by rw[Y,<-C.out];exact L
 by_cases Q:b<e
 .have a3:decide ((b:Int)<e)=true:=by simp;omega
  have F:b<a.cy.length:=by rw[x.out];exact Q
  have D:=J<|dy F;have H:=J<|yzn F;have t:=g.1.cg;have V:wr.cell? (O v b)=some (.string a.cy[b]):=by
   have n:({c with ot:=o}:Ev).cg= aa v e E:=j;rw[n]at t;have p:({a with out:=l}:Ed).cy.length=e:=x;rw[p]at t;have:=t.cellAt b (by omega);rw[this];show(sv a.cy)[b]?=_
   simp[sv,D.out]
  generalize S:a.cy[b]=t at V D H;have R:Y (a.lp (a.cy.take<|b+1)=({a with out:=l}:Ed).print t):=by
   rw[Y,yzj,D.out,yxg,Lm a,C.out]
  have F:=T t H;have q:l.length<=70368744177664:=by have:=P.out;have:=M.out;have:=U.out;omega
  go_wp21;go_call En i h {a with out:=l} {c with ot:=o} _ t g.1 q F as d Z ⟨rfl,r,s,u⟩;have S:Y (Aa f i h c {c with ot:=r} (a.lp<|a.cy.take<|b+1) Z):=by
   rw[Y,R.out];exact⟨s,g.2.trans u⟩
  go_wp21;go_roundw
  .exact⟨b+1,r,by omega,by go_num,S⟩
  simp[intOf];omega
 have D:b=e:=by omega
 subst D;have B:Y (a.fq={({a with out:=l}:Ed)with cy:=[]}):=by
  rw[Y,Ed.fq];have n:a.cy.take b=a.cy:=by rw[<-x.out];exact yzc
  have p:=C.out;rw[n]at p;rw[p]
 have V:wr.cell? (O i 11)=some (aa v b E):=by
  have:=g.1.xc 11;rw[this];exact congrArg some j
 have S:=g.1.cd 11;have t:Y (Ok f i h c a.fq<|wr.setCell (O i 11)<|aa v 0 E):=by
  rw[Y,B.out];have⟨R,F,H⟩:=aba (n:=b) g.1 j x.symm;exact⟨R,F,g.2.trans H⟩
 go_wp21;go_returns;exact⟨rfl,t⟩
def aj6(b:Nat)(s:ag)(p:cj)(cv lv:af)(w:ae)(R:Except Nat (List Cm)):Ending->ae->Prop:=λe w'=>match R with
 | .error i=>e=.returned (.tuple #[.int .i64 i,.bool false])/\Below b w w'
 | .ok cs=>e=.returned (.tuple #[.int .i64 0,.bool true])/\Below b w w'/\Rk w' b s {p with U:=cs} cv lv
def size_empty{x:ag}(a:x.size=0):x.toList.isEmpty=true:=by
 rw[yyn,List.isEmpty_iff];exact Ex.1 a
def Hg{x:ag}(b:¬x.size=0):x.toList.isEmpty=false:=by
 rw[yyn,List.isEmpty_eq_false_iff];intro a
 exact b (by show x.data.toList.length=0;rw[a];rfl)
def ap4(b:cj)(r aE:af)(u:ae)(A:Rk u i S b r aE)(aN:Lb b)(bO:b.bh.length<=400)(c3:b.U.length<=400)(a2:∀a∈b.bh,a.name.size<=400):
  Calls prog 70 #[.pointer<|some ⟨i,0,none⟩] u (aj6 i S b r aE u<|joinL b.bh b.U.length b.bh 0 b.U):=by
 have B:=A;have bM:=A.lt;have aY:=J a2;have aZ:=J aN;have aO:=J<|aqu i S b r aE u A bO a2;generalize c:joinL b.bh b.U.length b.bh 0 b.U=m;have aL:=J c;clear c aN a2;obtain⟨aR,aM,P⟩:∃aR aM,r=.slice aR b.U.length aM:=by
  obtain⟨xs,q,_⟩:=A.own;rcases q.2 with⟨s,c⟩|⟨e,d,_,s,_⟩
  .exact⟨none,0,by rw[s,c]⟩
  exact⟨_,_,s⟩
 rcases A.aej with⟨bN,c4,n,rfl⟩|⟨k,n,rfl,c0,c1⟩
 .clear A;have w:Y (m=.ok b.U):=by rw[Y,<-aL.out,bN];rfl
  go_in;go_wp2_with fail;go_call aO;rintro s aU ⟨M,rfl,bL,v,c⟩;have Q:=J<|B.tw v.size v.block;obtain⟨⟨⟨aF,aG,aK,_,_⟩,aJ,a3⟩,aH,Z,aI,a4,a5,a6,_,_,_⟩:=Q.out;clear c;go_wp2_with fail;go_loopw [17] (λe wr=>e=I 0/\wr=aU) (λ_ _=>0)
  .exact⟨rfl,rfl⟩
  obtain⟨rfl,rfl⟩:=hrel;go_wp2_with fail;go_returns;exact(by rw[w.out];exact⟨rfl,v.mono<|by omega,Q⟩)
 clear A;go_in;go_wp2_with fail;go_call aO;rintro s aU ⟨M,rfl,bL,v,c⟩;have b0:=J c;have Q:=J<|B.tw v.size v.block;obtain⟨⟨⟨aF,aG,aK,_,_⟩,aJ,a3⟩,aH,Z,aI,a4,a5,a6,_,_,_⟩:=Q.out;clear c;go_wp2_with fail;clear aF aG aK aJ a3 aH Z aI a4 a5 a6;go_loopw [17] (λe wr=>∃(d:Nat)(c:List Cm),e=I d/\d<=b.bh.length/\Y (Rk wr i S {b with U:=c} r<|aa k b.bh.length n)/\Y (Fq i r r (aa k b.bh.length n) (aa k b.bh.length n) u wr)/\Y (rf wr M b.bh.length<|ro b.bh)/\Y (c.length=b.U.length)/\Y (m=joinL b.bh b.U.length (b.bh.drop d) d c)) (λe _=>b.bh.length-(intOf e).toNat)
 .exact⟨0,b.U,rfl,ey _,Q,Fq.mw<|Mw.below v bM,b0,rfl,aL.symm⟩
 obtain⟨d,c,rfl,c6,o,x,p,R,a0⟩:=hrel;have F:=o.lt;by_cases b1:d=b.bh.length
 .subst b1;have w:Y (m=.ok c):=by rw[Y,a0.out,List.drop_length];rfl
  go_wp2_with fail;go_returns;exact(by rw[w.out];exact⟨rfl,x.below B,o⟩)
 have a7:d<b.bh.length:=by omega
 obtain⟨a,f⟩:∃a,b.bh[d]?=some a:=⟨_,dy a7⟩;have aW:=R.out;have U:Y (m=if a.name.size=0 then joinL b.bh b.U.length (b.bh.drop<|d+1) (d+1) (if a.want=true then setGoal c a.cmd b.U.length else c)else match markF a.name b.bh 0 with
   |none=> .error a.H
   |some g=>if a.want=false/\g≠d then .error a.H else joinL b.bh b.U.length (b.bh.drop<|d+1) (d+1) (if a.want=true then setGoal c a.cmd ((b.bh[g]?.map ft.cmd).getD 0)else c)):=by
  rw[Y,a0.out,Dn a7,show b.bh[d]=a from by rw[dy a7]at f;exact yyo f];rfl
 have c5:=aY a<|qy f;have b2:a.name.size<=maxLen:=by unfold maxLen;omega
 have aP:a.want=true->a.cmd<c.length:=λK=>by rw[aW];exact aZ a (qy f) K
 have h:∀aC j,b.bh[aC]?=some j->∀X e,[Value.string j.name,I j.H,I j.cmd,.bool j.want][X]?=some e->wr.cell? (O k<|aC*4+X)=some e:=λaC j L X e T=>o.aeb L X e T
 have aV:=J h;have aT:=h d a f 0 _ rfl;have c9:=h d a f 1 _ rfl;have cA:=h d a f 2 _ rfl;have W:=h d a f 3 _ rfl;rw[yzp]at aT;have c2:k<wr.heap.size:=dw wr _ aT
 obtain⟨⟨⟨aF,aG,aK,_,_⟩,aJ,a3⟩,aH,Z,aI,a4,a5,a6,_,_,_⟩:=o.out;have b3:=Z;rw[P]at b3;have b4:=J f;clear h f a0;by_cases V:a.name.size=0
 have aX:=size_empty V;have H:Y (m=joinL b.bh b.U.length (b.bh.drop<|d+1) (d+1) (if a.want=true then setGoal c a.cmd b.U.length else c)):=by rw[Y,U.out,G V]
 clear U;rcases df a.want with l|l
 have y:Y (m=joinL b.bh b.U.length (b.bh.drop<|d+1) (d+1) (setGoal c a.cmd<|b.U.length)):=by rw[Y,H.out,G l]
 rotate_left
 .rw[l]at W;have y:Y (m=joinL b.bh b.U.length (b.bh.drop<|d+1) (d+1) c):=by rw[Y,H.out,l];rfl
  go_wp2_with fail;go_roundw
  .exact⟨d+1,c,rfl,by omega,o.tw (by simp)<|λaD C=>im _ _ _ C,x.trans<|Fq.mw<|(Mw.refl i wr).alloc F _,p.of<|im _ _ _ p.lt,R,y⟩
  simp[intOf];omega
 have aX:=Hg V;have H:Y (m=match markF a.name b.bh 0 with
  |none=> .error a.H
  |some g=>if a.want=false/\g≠d then .error a.H else joinL b.bh b.U.length (b.bh.drop<|d+1) (d+1) (if a.want=true then setGoal c a.cmd ((b.bh[g]?.map ft.cmd).getD 0)else c)):=by rw[Y,U.out,N V]
 clear U;have bH:Y (rf (wr.alloc<|.cells #[.string a.name,I a.H,I a.cmd,.bool a.want] 191) M b.bh.length<|ro b.bh):=p.of<|im _ _ _ p.lt;have D:=bH.look a.name b2;rw[Vr]at D;rcases E:markF a.name b.bh 0 with _|g
 .rw[E]at D;simp only at D;have w:Y (m=.error a.H):=by rw[Y,H.out,E]
  go_wp2_with fail;go_returns;exact(by rw[w.out];exact⟨rfl,(x.trans<|Fq.mw<|(Mw.refl i wr).alloc F _).below B⟩)
 rw[E]at D;simp only at D;have bI:g<b.bh.length:=by have:=aeo a.name b.bh 0 g E;omega
 obtain⟨j,L⟩:∃j,b.bh[g]?=some j:=⟨_,dy bI⟩;have bR:=aV g j L 2 _ rfl;have cC:(0:Int)<=g:=by omega
 have cE:(g:Int)<b.bh.length:=by omega
 have aB:Y (m=if a.want=false/\g≠d then .error a.H else joinL b.bh b.U.length (b.bh.drop<|d+1) (d+1) (if a.want=true then setGoal c a.cmd j.cmd else c)):=by rw[Y,H.out,E];simp only[L];rfl
 have bJ:=J L;clear H E L;rcases df a.want with l|l
 have y:Y (m=joinL b.bh b.U.length (b.bh.drop<|d+1) (d+1) (setGoal c a.cmd<|j.cmd)):=by rw[Y,aB.out,N (λK=>by rw[l]at K;cases K.1),G l]
 rotate_left
 .rw[l]at W D;by_cases aQ:g=d
  .subst aQ;obtain rfl:j=a:=by have aS:=b4.out;rw[bJ.out]at aS;exact yyo aS
   clear bR
   have y:Y (m=joinL b.bh b.U.length (b.bh.drop<|g+1) (g+1) c):=by rw[Y,aB.out,N<|λK=>K.2 rfl,l];rfl
   go_wp2_with fail;go_roundw
   .exact⟨g+1,c,rfl,by omega,o.tw (by simp)<|λaD C=>im _ _ _ C,x.trans<|Fq.mw<|(Mw.refl i wr).alloc F _,p.of<|im _ _ _ p.lt,R,y⟩
   simp[intOf];omega
  have bK:((g:Int) !=(d:Int))=true:=by simp;omega
  have w:Y (m=.error a.H):=by rw[Y,aB.out,G ⟨l,aQ⟩]
  go_wp2_with fail;go_returns;exact(by rw[w.out];exact⟨rfl,(x.trans<|Fq.mw<|(Mw.refl i wr).alloc F _).below B⟩)
 all_goals
  have b5:=aP l;rw[l]at W;(try rw[l]at D)
  obtain⟨f,h,P⟩:∃f h,r= aa f c.length h:=by
   obtain⟨xs,q,_⟩:=o.own;obtain⟨f,h,s,_⟩:=q.form (show 0<c.length by omega);exact⟨f,h,s⟩
  subst P;have z:Rk (wr.alloc<|.cells #[.string a.name,I a.H,I a.cmd,.bool true] 191) i S {b with U:=c} (aa f c.length h) (aa k b.bh.length n):=o.tw (by simp)<|λaD C=>im _ _ _ C;obtain⟨b6,t,_⟩:=z.own;have a1:∃e,(wr.alloc<|.cells #[.string a.name,I a.H,I a.cmd,.bool true] 191).cell? (O f<|a.cmd*23+12)=some e:=by
   rw[t.cellAt (a.cmd*23+12)<|by show a.cmd*23+12<c.length*23;omega];exact⟨_,dy<|by rw[t.1];show a.cmd*23+12<c.length*23;omega⟩
  obtain⟨bZ,b7⟩:=a1;have b8:=t.frozenAt<|a.cmd*23+12;have b9:i+1<=f/\f<u.heap.size:=by obtain⟨xs,q,_⟩:=B.own;exact q.lt f rfl
  have a8:Y (∀(e:Int)(G:Nat),e=(G:Int)->Rk ((wr.alloc<|.cells #[.string a.name,I a.H,I a.cmd,.bool true] 191).setCell (O f<|a.cmd*23+12)<|I e) i S {b with U:=setGoal c a.cmd G} (aa f c.length h) (aa k b.bh.length n)):=λe G T=>z.cn (show a.cmd<c.length by omega) T
  have a9:Y (∀e,rf ((wr.alloc<|.cells #[.string a.name,I a.H,I a.cmd,.bool true] 191).setCell (O f<|a.cmd*23+12) e) M b.bh.length<|ro b.bh):=λe=>p.of (by rw[er _ _ _ _<|by simp only;omega];exact im _ _ _ p.lt)
  have aA:Y (∀e,Fq i (aa f c.length h) (aa f c.length h) (aa k b.bh.length n) (aa k b.bh.length n) u<|(wr.alloc<|.cells #[.string a.name,I a.H,I a.cmd,.bool true] 191).setCell (O f<|a.cmd*23+12) e):=λe=>(x.trans<|Fq.mw<|(Mw.refl i wr).alloc F _).Ya<|.inl rfl
  obtain⟨⟨⟨bS,bT,bY,_,_⟩,bX,bD⟩,bU,bV,bW,bE,bF,bG,_,_,_⟩:=z;clear t;go_wp2_with fail;go_region
  all_goals go_wp2_with fail
  all_goals go_roundw
  all_goals first
   |exact⟨d+1,setGoal c a.cmd _,rfl,by omega,(a8 _ _ rfl).tw ah<|λ_ _=>rfl,(aA _).drew,(a9 _).of rfl,by rw[Y,Dj];exact R,y⟩
   |(simp[intOf];omega)
section
structure Dd where
 rest:ag
 dq:Bool
 number:Nat
 L:ag
 bt:ag
 ef:List ag
 out:ag
 bo:List Bool
 put:Bool
 dt:Nat
 ck:Nat
 ji:Bool
structure Dw where
 B:Nat
 b:Nat
 rb:Nat
 cf:Cf
def Ii(p:Dw)(D:Dd)(cv pv:af):List af:=
 [ab p.rb 0,I p.cf.line,I p.cf.space,I p.cf.dt,.bool p.cf.quiet,.string ⟨#[]⟩,.bool D.dq,.string D.rest,I D.number,.string D.L,.string D.bt,cv,.string D.out,pv,.bool D.put,I D.dt,I D.ck,.bool D.ji]
structure DE(p:Dw)(w:ae)(D:Dd)(cv pv:af):Prop where
 row:bd w p.b (Ii p D cv pv)
 cg:w.ownsRow p.B 9 1 cv D.ef.length (sv D.ef)
 op:w.ownsRow p.B 4 1 pv D.bo.length (ov D.bo)
 le:p.B<=p.b
 a1:cv.ownBlock≠some p.b
 a2:pv.ownBlock≠some p.b
 a3:∀k,cv.ownBlock=some k->pv.ownBlock≠some k
structure Fz(p:Dw)(c0 cv pv:af)(w w':ae):Prop where
 os:w'.os=w.os
 tape:w'.tape=w.tape
 output:w'.output=w.output
 size:w.heap.size<=w'.heap.size
 block:∀k,k<w.heap.size->k≠p.b->c0.ownBlock≠some k->pv.ownBlock≠some k->w'.heap[k]?=w.heap[k]?
 rp:∀k,cv.ownBlock=some k->c0.ownBlock=some k\/w.heap.size<=k
def DQ(p:Dw)(c0:af)(w w':ae)(D:Dd)(cv pv:af):Prop:=DE p w' D cv pv/\Fz p c0 cv pv w w'
section
variable {p:Dw} {w w1 w2:ae} {D D' D'':Dd} {c0 c2 cv pv:af}
def DE.cell(c:DE p w D cv pv){k:Nat}{a:af}(b:(Ii p D cv pv)[k]?=some a):w.cell? (O p.b k)=some a:=c.row.cell b
def DE.xc{a:af}(c:DE p w D cv pv)(k:Nat)(b:(Ii p D cv pv)[k]?=some a:=by exact rfl):w.cell? (O p.b k)=some a:=c.row.cell b
def DE.cd(c:DE p w D cv pv)(a:Nat)(b:a<18:=by omega):w.frozen? (O p.b a)=false:=c.row.frozen<|by exact b
def DE.lt(a:DE p w D cv pv):p.b<w.heap.size:=a.row.lt (by show 0<18;omega)
def DE.set(a:DE p w D cv pv)(b:Nat)(c:af)(f:b<18)(g:(Ii p D cv pv).set b c=Ii p D' cv pv)(h:D'.ef=D.ef:=by rfl)(i:D'.bo=D.bo:=by rfl):DE p (w.setCell (O p.b b) c) D' cv pv:=by
 have d:bf p.b w (w.setCell (O p.b b) c):=(bf.refl _ w).setCell b c;have e:=a.row.put b f c;rw[g]at e;exact⟨e,by rw[h];exact mc d a.cg a.a1,by rw[i];exact mc d a.op a.a2,a.le,a.a1,a.a2,a.a3⟩
def DE.same(a:DE p w D cv pv)(c:∀b,b<w.heap.size->w1.heap[b]?=w.heap[b]?):DE p w1 D cv pv:=
 ⟨a.row.cw<|c _ a.lt,da a.cg λb d=>c b (a.cg.lt b d).2,da a.op λb d=>c b (a.op.lt b d).2,a.le,a.a1,a.a2,a.a3⟩
def DE.below(b:DE p w D cv pv)(a:Below w.heap.size w w1):DE p w1 D cv pv:=b.same a.block
def alf(e:Below a w w1)(d:a<=b):Below a w (w1.setCell (O b c) x):=Below.bj e ((bf.refl _ w1).setCell c x) d
def Nw(b:Below a w w1)(c:Nat):Below a w (w1.drewN c):=⟨b.os,b.tape,b.output,b.size,b.block⟩
def DE.q(a:DE p w D cv pv):DQ p cv w w D cv pv:=⟨a,rfl,rfl,rfl,ah,λ_ _ _ _ _=>rfl,λ_ a=> .inl a⟩
def DQ.trans(a:DQ p c0 w w1 D cv pv)(b:DQ p cv w1 w2 D' c2 pv):DQ p c0 w w2 D' c2 pv:=by
 refine⟨b.1,b.2.os.trans a.2.os,b.2.tape.trans a.2.tape,b.2.output.trans a.2.output,bq a.2.size b.2.size,λc d f g h=>?_,λc d=>?_⟩
 .refine(b.2.block c (ew d a.2.size) f (λe=>?_) h).trans<|a.2.block c d f g h;rcases a.2.rp c e with e|e
  .exact g e
  omega
 rcases b.2.rp c d with e|e
 .exact a.2.rp c e
 exact .inr<|bq a.2.size e
def DQ.below(b:DQ p c0 w w1 D cv pv)(a:Below w1.heap.size w1 w2):DQ p c0 w w2 D cv pv:=b.trans ⟨b.1.below a,a.os,a.tape,a.output,a.size,λd c _ _ _=>a.block d c,λ_ b=> .inl b⟩
def DQ.drewN(a:DQ p c0 w w1 D cv pv)(b:Nat):DQ p c0 w (w1.drewN b) D cv pv:=a.below ⟨rfl,rfl,rfl,ah,λ_ _=>rfl⟩
def DQ.put(c:DQ p c0 w w1 D cv pv)(hd:DE p (w1.setCell (O p.b a) x) D' cv pv):DQ p c0 w (w1.setCell (O p.b a) x) D' cv pv:=
 have b:bf p.b w1 (w1.setCell (O p.b a) x):=(bf.refl _ w1).setCell a x
 c.trans ⟨hd,b.os,b.tape,b.output,yh b.size.symm,λe _ d _ _=>b.block e d,λ_ c=> .inl c⟩
def DE.qg(c:DE p w D cv pv)(d:w.heap.size<=a):a≠p.b/\cv.ownBlock≠some a/\pv.ownBlock≠some a:=
 ⟨λb=>by have:=c.lt;omega,λb=>by have:=(c.cg.lt a b).2;omega,λb=>by have:=(c.op.lt a b).2;omega⟩
def DQ.keep{c:Dd}(e:DQ p cv w1 w2 D c2 pv)(a:DE p u c cv pv){g:Nat}(b:u.heap.size<=g:=by omega)(d:g<w1.heap.size:=by omega):w2.heap[g]?=w1.heap[g]? :=
 e.2.block g d (a.qg b).1 (a.qg b).2.1 (a.qg b).2.2
def DQ.low(b:DQ p cv w w1 D c2 pv)(a:DE p w D' cv pv):Below p.B w w1:=
 ⟨b.2.os,b.2.tape,b.2.output,b.2.size,λd e=>b.2.block d (ew e<|bq a.le<|yyh a.lt) (λc=>by have:=a.le;omega) (λc=>by have:=(a.cg.lt d c).1;omega) (λc=>by have:=(a.op.lt d c).1;omega)⟩
def DQ.rest(a:DQ p c0 w w1 D cv pv)(b:ag):DQ p c0 w (w1.setCell (O p.b 7)<|.string b) {D with rest:=b} cv pv:=a.put<|a.1.set 7 _ (by omega) rfl
def DQ.num(a:DQ p c0 w w1 D cv pv)(b:Nat):DQ p c0 w (w1.setCell (O p.b 8)<|I b) {D with number:=b} cv pv:=a.put<|a.1.set 8 _ (by omega) rfl
def DQ.L(a:DQ p c0 w w1 D cv pv)(b:ag):DQ p c0 w (w1.setCell (O p.b 9)<|.string b) {D with L:=b} cv pv:=a.put<|a.1.set 9 _ (by omega) rfl
def DQ.bt(a:DQ p c0 w w1 D cv pv)(b:ag):DQ p c0 w (w1.setCell (O p.b 10)<|.string b) {D with bt:=b} cv pv:=a.put<|a.1.set 10 _ (by omega) rfl
def DQ.out(a:DQ p c0 w w1 D cv pv)(x:ag):DQ p c0 w (w1.setCell (O p.b 12)<|.string x) {D with out:=x} cv pv:=a.put<|a.1.set 12 _ (by omega) rfl
def DQ.Pz(a:DQ p c0 w w1 D cv pv)(b:Bool):DQ p c0 w (w1.setCell (O p.b 14)<|.bool b) {D with put:=b} cv pv:=a.put<|a.1.set 14 _ (by omega) rfl
def DQ.dt(a:DQ p c0 w w1 D cv pv)(b:Nat):DQ p c0 w (w1.setCell (O p.b 15)<|I b) {D with dt:=b} cv pv:=a.put<|a.1.set 15 _ (by omega) rfl
def DQ.ck(a:DQ p c0 w w1 D cv pv)(b:Nat):DQ p c0 w (w1.setCell (O p.b 16)<|I b) {D with ck:=b} cv pv:=a.put<|a.1.set 16 _ (by omega) rfl
def DQ.ji(a:DQ p c0 w w1 D cv pv)(b:Bool):DQ p c0 w (w1.setCell (O p.b 17)<|.bool b) {D with ji:=b} cv pv:=a.put<|a.1.set 17 _ (by omega) rfl
end
def Dd.print(D:Dd)(s:ag):Dd:={D with out:=D.out++s++gp}
def Eo(p:Dw)(D:Dd)(cv pv:af)(a:ag)(w:ae)(c:DE p w D cv pv)(e:D.out.size+a.size<=1099511000000:=by omega):
  Calls prog 138 #[.pointer<|some ⟨p.b,0,none⟩,.string a] w λg h=>g=.returned (.tuple #[])/\DQ p cv w h (D.print a) cv pv:=by
 have l:=c.xc 12;have j:=c.cd 12;have d:(D.out++a).size=D.out.size+a.size:=uh;have i:∀b:ae,(Op.stringOp .add D.out a).run prog b=.ok (.string<|D.out++a) b:=λb=>yye (P:=prog) (w:=b) _ _<|by omega
 have k:∀b:ae,(Op.stringOp .add (D.out++a) ⟨#[10]⟩).run prog b=.ok (.string<|D.out++a++⟨#[10]⟩) b:=λb=>yye (P:=prog) (w:=b) _ _ (by rw[d];show _+1<=_;omega)
 have f:Y _:=c.q.out<|D.out++a++gp;go_in;go_wp21;go_returns;exact⟨rfl,f⟩
def Dd.room(p:Dw)(D:Dd)(s:ag):Dd:=if p.cf.space<s.size then {D with ck:=4} else D
def Xk(p:Dw)(D:Dd)(cv pv:af)(a:ag)(w:ae)(b:DE p w D cv pv):
  Calls prog 183 #[.pointer<|some ⟨p.b,0,none⟩,.string a] w λg i=>g=.returned (.bool<|decide<|a.size<=p.cf.space)/\DQ p cv w i (D.room p a) cv pv:=by
 have m:=b.xc 2;have k:=b.xc 16;have j:=b.cd 16;by_cases c:p.cf.space<a.size
 .have f:decide (p.cf.space<a.size)=true:=by simp;omega
  have h:decide (a.size<=p.cf.space)=false:=by simp;omega
  have d:Y (DQ p cv w (w.setCell (O p.b 16)<|I 4) (D.room p a) cv pv):=by rw[Dd.room,G c];exact b.q.ck 4
  have l:=d.1.xc 2;have e:Y (decide (a.size<=p.cf.space)=false):=by rw[Y];simp;omega
  go_in;go_wp21;go_ret;exact⟨by rw[e.out];rfl,d⟩
 have f:decide (p.cf.space<a.size)=false:=by simp;omega
 have h:decide (a.size<=p.cf.space)=true:=by simp;omega
 have d:Y (DQ p cv w w (D.room p a) cv pv):=by rw[Y,Dd.room,N c];exact b.q
 have e:Y (decide (a.size<=p.cf.space)=true):=by rw[Y];simp;omega
 go_in;go_wp21;go_ret;exact⟨by rw[e.out];rfl,d⟩
end
def Dd.yg(D:Dd):Bool:=D.rest.toList.isEmpty&& !D.dq
def Dd.zm(D:Dd):Bool:=D.rest.toList.isEmpty&&D.dq
def Dd.last(D:Dd):Dd:=if D.yg=true then {D with ji:=true} else D
def Vi(e:Dw)(a:Dd)(c g:af)(f:ae)(b:DE e f a c g):
  Calls prog 135 #[.pointer<|some ⟨e.b,0,none⟩] f λi o=>i=.returned (.bool a.zm)/\DQ e c f o a.last c g:=by
 have q:=b.xc 7;have j:=b.xc 6;have p:=b.cd 17;have r:=b.xc 17;have d:=J<|b.q.ji true;have k:=J b.q;have s:=d.1.xc 7;have l:=d.1.xc 6;cases m:a.rest.toList.isEmpty<;>cases hd:a.dq<;>rw[hd]at j l
 all_goals
  have n:Y (a.zm=(a.rest.toList.isEmpty&&a.dq)):=rfl;have h:Y (a.last=if(a.rest.toList.isEmpty&& !a.dq)=true then {a with ji:=true} else a):=rfl;rw[Y,m,hd]at n h;go_in;go_wp21;go_ret
  try rw[h]
  first|exact⟨rfl,k⟩|exact⟨rfl,by have:=d;rw[hd]at this;exact this⟩
def Dz(s:ag):Int:=if ci s 0<s.size then(ci s 0:Int)else-1
def On(b:k<S.size)(a:au S k≠10):jh S (j+1) k=jh S j (k+1):=by rw[jh,G ⟨b,a⟩]
def Kh(a:¬(k<S.size/\au S k≠10)):jh S j k=k:=by
 cases j with
 |zero=>rfl
 |succ j=>rw[jh,N a]
def Tj(o:S.size<=1099511000000:=by omega):
  Calls prog 139 #[.string S] W λk m=>k=.returned (.int .i64<|Dz S)/\Below W.heap.size W m:=by
 go_in;go_wp21;go_loop [3] (λh=>∃a:Nat,a<=S.size/\h=I a/\Y (ci S 0=jh S (S.size-a) a)) (λh=>S.size-(intOf h).toNat)
 .exact⟨0,ey _,rfl,rfl⟩
 obtain⟨a,p,rfl,f⟩:=hrel;by_cases b:a<S.size
 .have e:=Cx S a b;have j:S.size-a=S.size-(a+1)+1:=by omega
  by_cases d:((S[a].toNat:Int)==10)=true
  .have g:Y (Dz S=(a:Int)):=by
    have i:jh S (S.size-a) a=a:=Kh S _ a (λc=>c.2<|by rw[<-e];exact Int.ofNat.inj<|by simpa using d);rw[Y,Dz,f.out,i,G b]
   go_wp2;go_ret;exact⟨by rw[g.out];rfl,bp _ _⟩
  have n:((S[a].toNat:Int)==10)=false:=by simpa using d
  have l:Y (ci S 0=jh S (S.size-(a+1)) (a+1)):=by
   rw[Y,f.out,j];exact On S _ a b (by rw[<-e];intro c;apply d;rw[c];rfl)
  go_wp2;go_round
  .exact⟨a+1,by omega,by go_num,l⟩
  simp[intOf];omega
 have g:Y (Dz S=-1):=by
  have i:jh S (S.size-a) a=a:=Kh S _ a<|λc=>b c.1;rw[Y,Dz,f.out,i,N b]
 go_wp2;go_ret;exact⟨by rw[g.out];rfl,bp _ _⟩
def Dd.oe(p:Dw)(D:Dd)(t:ag):Dd:=
 if p.cf.line<ci D.rest 0 then {D with ck:=3}
 else if ci D.rest 0=D.rest.size/\D.dq=false then {D with ji:=true}
 else if D.rest.size=0 then {D with ck:=1}
 else if p.cf.space<t.size+ci D.rest 0 then {D with ck:=4}
 else {D with L:=t++D.rest.extract 0 (ci D.rest 0),rest:=D.rest.extract (ci D.rest 0+1) D.rest.size,number:=D.number+1,put:=false,dt:=0}
def Dd.rm(p:Dw)(D:Dd)(t:ag):Bool:=
 decide (ci D.rest 0<=p.cf.line)&& !(decide (ci D.rest 0=D.rest.size)&& !D.dq)&& !decide (D.rest.size=0)&&decide (t.size+ci D.rest 0<=p.cf.space)
def Tx(b:ag):∀(f a:Nat),a<=b.size->jh b f a<=b.size
 |0,a,h=>h
 |f+1,a,h=>by
  rw[jh];split
  .rename_i c;exact Tx b f (a+1) c.1
  exact h
def Tu(d:¬(a=b/\f=false)):(((a:Int)==b)=false)\/(((a:Int)==b)=true/\f=true):=by
 by_cases c:a=b
 .exact .inr ⟨by simp[c],by cases f;exact cb ⟨c,rfl⟩ d;rfl⟩
 exact .inl (by simp;omega)
def Vn(c:Dw)(a:Dd)(i p:af)(e:ag)(F:Bool)(h:ae)(b:DE c h a i p)(a4:a.rest.size<=1099511000000)(a5:e.size<=1000)(a3:a.number<=1099511000000):
  Calls prog 56 #[.pointer<|some ⟨c.b,0,none⟩,.string e,.bool F] h λE P=>E=.returned (.bool<|a.rm c e)/\DQ c i h P (a.oe c e) i p:=by
 have q:=J b.q;have a6:=b.xc 1;have a7:=b.xc 2;have r:=b.xc 6;have a8:=b.xc 7;have a9:=b.xc 8;have aA:=b.xc 9;have Q:=b.xc 14;have R:=b.xc 15;have S:=b.xc 16;have T:=b.xc 17;have a0:=b.cd 7;have a1:=b.cd 8;have a2:=b.cd 9;have U:=b.cd 14;have V:=b.cd 15;have W:=b.cd 16;have X:=b.cd 17;clear b;go_in;go_upto_block 0 with fail
 have z:ci a.rest 0<=a.rest.size:=Tx _ _ _<|ey _;go_cut [7] (λC D=>C=I (ci a.rest 0:Int)/\D=h)
 case first=>
  go_wp21;go_loop [7] (λm=>∃d:Nat,d<=a.rest.size/\m=I d/\Y (ci a.rest 0=jh a.rest (a.rest.size-d) d)) (λm=>a.rest.size-(intOf m).toNat)
  .exact⟨0,ey _,rfl,rfl⟩
  obtain⟨d,s,rfl,j⟩:=hrel;by_cases n:d<a.rest.size
  .have l:=Cx a.rest d n;by_cases f:((a.rest[d].toNat:Int)==10)=true
   .have k:=J (j.trans<|Kh _ _ d<|λb=>b.2<|by rw[<-l];exact Int.ofNat.inj<|by simpa using f);go_wp21;go_meet;exact⟨by rw[k.out],rfl⟩
   have o:((a.rest[d].toNat:Int)==10)=false:=by simpa using f
   have g:Y (ci a.rest 0=jh a.rest (a.rest.size-(d+1)) (d+1)):=by
    rw[Y,j.out,show a.rest.size-d=a.rest.size-(d+1)+1 by omega];exact On _ _ d n (by rw[<-l];intro b;apply f;rw[b];rfl)
   clear f l;go_wp21;go_round
   .exact⟨d+1,by omega,by go_num,g⟩
   simp[intOf];omega
  have k:=J<|j.trans<|Kh _ _ d<|λb=>n b.1;go_wp21;go_meet;exact⟨by rw[k.out],rfl⟩
 obtain⟨rfl,d⟩:=hcut;have A:=d.symm;subst A;clear d;obtain⟨d,f⟩:∃d,d=ci a.rest 0:=⟨_,rfl⟩;rw[<-f]at z|-;have g:=J f;clear f;by_cases o:c.cf.line<d
 .have k:Y (DQ c i h (h.setCell (O c.b 16)<|I 3) (a.oe c e) i p):=by rw[Dd.oe,<-g.out,G o];exact q.ck 3
  have j:Y (a.rm c e=false):=by rw[Y,Dd.rm,<-g.out];simp;omega
  go_wp21;go_ret;exact⟨by rw[j.out];rfl,k⟩
 by_cases f:d=a.rest.size/\a.dq=false
 .have k:Y (DQ c i h (h.setCell (O c.b 17)<|.bool true) (a.oe c e) i p):=by rw[Dd.oe,<-g.out,N o,G f];exact q.ji true
  have j:Y (a.rm c e=false):=by rw[Y,Dd.rm,<-g.out,f.2];simp[f.1]
  have l:((d:Int)==a.rest.size)=true:=by simp[f.1]
  rw[f.2]at r;clear f;go_wp21;go_ret;exact⟨by rw[j.out];rfl,k⟩
 by_cases m:a.rest.size=0
 .have k:Y (DQ c i h (h.setCell (O c.b 16)<|I 1) (a.oe c e) i p):=by rw[Dd.oe,<-g.out,N o,N f,G m];exact q.ck 1
  have j:Y (a.rm c e=false):=by rw[Y,Dd.rm,<-g.out];simp[m]
  have K:=size_empty m;have l:a.dq=true:=by
   cases hd:a.dq
   .exact cb ⟨by omega,hd⟩ f
   rfl
  rw[l]at r;have s:d=0:=by omega
  clear f;go_wp21;go_ret;exact⟨by rw[j.out];rfl,k⟩
 have K:=Hg m;by_cases s:c.cf.space<e.size+d
 .have k:Y (DQ c i h (h.setCell (O c.b 16)<|I 4) (a.oe c e) i p):=by rw[Dd.oe,<-g.out,N o,N f,N m,G s];exact q.ck 4
  have j:Y (a.rm c e=false):=by rw[Y,Dd.rm,<-g.out];simp;omega
  have w:=Tu f;clear f;rcases w with l|⟨l,u⟩
  .go_wp21;go_ret;exact⟨by rw[j.out];rfl,k⟩
  rw[u]at r;go_wp21;go_ret;exact⟨by rw[j.out];rfl,k⟩
 have j:Y (a.rm c e=true):=by
  rw[Y,Dd.rm,<-g.out];have:=Tu f;rcases this with b|⟨_,b⟩
  .simp at b;simp[m];omega
  simp[b,m];omega
 have L:decide (c.cf.space<e.size+d)=false:=by simpa using s
 have w:=Tu f;have B:=J f;clear f;have Z:∀t:ae,(Op.stringOp .add e<|a.rest.extract 0 d).run prog t=.ok (.string<|e++a.rest.extract 0 d) t:=λt=>yye (P:=prog) (w:=t) _ _ (by rw[lw];omega)
 have y:Y (a.oe c e={a with L:=e++a.rest.extract 0 d,rest:=a.rest.extract (d+1) a.rest.size,number:=a.number+1,put:=false,dt:=0}):=by
  rw[Y,Dd.oe,<-g.out,N o,N B.out,N m,N s]
 have x:(a.rest.extract d a.rest.size).size=a.rest.size-d:=by rw[lw];omega
 rcases w with l|⟨l,u⟩
 .have n:d<a.rest.size:=by simp at l;omega
  have M:=Hg (x:=a.rest.extract d a.rest.size) (by omega);have aB:(1:Int)<=((a.rest.size-d:Nat):Int):=by omega
  have v:Y ((a.rest.extract d a.rest.size).extract 1 (a.rest.size-d)=a.rest.extract (d+1) a.rest.size):=by
   rw[Y,ByteArray.extract_extract];congr 1;omega
  clear x;go_wp21;go_ret;refine⟨by rw[j.out];rfl,?_⟩;rw[y.out,<-v.out];exact(((((q.L _).rest _).rest _).num<|a.number+1).Pz _).dt 0
 have n:d=a.rest.size:=by simp at l;omega
 have M:=size_empty (x:=a.rest.extract d a.rest.size) (by omega);rw[u]at r;have v:Y (a.rest.extract d a.rest.size=a.rest.extract (d+1) a.rest.size):=by
  rw[Y];apply va;simp[yyg,n]
 clear x n;go_wp21;go_ret;refine⟨by rw[j.out];rfl,?_⟩;rw[y.out,<-v.out];exact((((q.L _).rest _).num<|a.number+1).Pz _).dt 0
structure jd(x:Sc)(i:Nat):Prop where
 op:x.op<=5
 bm:x.bm<=i
 zero:x.zero<=1
 gf:x.gf<=1
 rows:x.rows<=i
 part:x.part<=2
 ax:x.ax<=21
 L:Small x.L
 pa:x.fp.length<=i
 pl:x.db.length<=i
 pn:∀n∈x.db,n<=i
 lb:x.bu.length<=i
 nm:∀q∈x.bu,q.name.length<=i
 m10:x.ax=10->x.bm≠0->x.bu≠[]
 m6:x.ax=6\/x.ax=12->x.db≠[]
 pe:x.fp.length=x.db.length
 nc:∀q∈x.bu,∀c∈q.name,c<256
def jd.sm{c:Sc}(b:jd c a)(d:a<=900):Sm c:=⟨b.op,by have:=b.bm;omega,b.zero,b.gf,by have:=b.rows;omega,b.part,b.ax,b.L⟩
def aof:jd yu 0:=⟨by decide,by decide,by decide,by decide,by decide,by decide,by decide,by unfold Small yu;decide,by decide,by decide,by intro c a;simp[yu]at a,by decide,by intro c a;simp[yu]at a,λb=>by simp[yu]at b,λb=>by simp[yu]at b,rfl,λe d=>by simp[yu]at d⟩
def jd.of{d b:Sc}(c:jd d a)(m:b.op<=5)(n:b.bm<=a+1)(o:b.zero<=1)(q:b.gf<=1)(p:b.rows<=a+1)(s:b.part<=2)(t:b.ax<=21)(u:b.L=d.L)(j:b.fp=d.fp)(f:b.db=d.db)(g:b.bu=d.bu)
  (k:b.ax=10->b.bm=0) (l:b.ax=6\/b.ax=12->d.ax=b.ax):jd b (a+1):=
 ⟨m,n,o,q,p,s,t,by rw[u];exact c.L,by rw[j];have:=c.pa;omega,by rw[f];have:=c.pl;omega,by rw[f];intro h i;have:=c.pn h i;omega,by rw[g];have:=c.lb;omega,by rw[g];intro h i;have:=c.nm h i;omega,λe r=>cb (k e) r,λe=>by rw[f];exact c.m6<|by rw[l e];exact e,by rw[j,f];exact c.pe,by rw[g];exact c.nc⟩
def Uf{f e:Sc}(c:jd f a)(d:qk f b=some e):jd e (a+1):=by
 have j:=c.op;have k:=c.bm;have g:=c.zero;have h:=c.gf;have l:=c.rows;have i:=c.part;unfold qk at d
 (repeat' split at d)<;>first|(cases d;done)|(cases d;exact c.of (by simp only;omega) (by simp only;omega) g h (by simp only;omega) i (by simp) rfl rfl rfl rfl (by simp)<|by simp)
def aon{f e:Sc}(c:jd f a)(d:di f b=some e):jd e (a+1):=by
 have i:=c.op;have j:=c.bm;have g:=c.zero;have k:=c.gf;have l:=c.rows;have h:=c.part;unfold di at d
 (repeat' split at d)<;>first|(cases d;done)|(cases d;exact c.of (by simp only;omega) (by simp only;omega) g (by simp only;omega) (by simp only;omega) h (by simp) rfl rfl rfl rfl (by simp)<|by simp)
def acq{f e:Sc}{c d:Nat}(b:jd f c)(h:d<=21)(g:d≠10)(i:some (pattern {f with ax:=d} (c+1))=some e):jd e (c+1):=by
 cases i
 have n:=b.bm;have o:=b.rows;have p:=b.pa;have q:=b.pl;have r:=b.lb;refine⟨b.op,by simp only[pattern];omega,b.zero,b.gf,by simp only[pattern];omega,b.part,h,by unfold Small pattern;simp,by simp[pattern];omega,by simp[pattern];omega,?_,by simp only[pattern];omega,λj k=>by have:=b.nm j k;omega,λl=>cb l g,λ_=>by simp[pattern],by simp[pattern,b.pe],b.nc⟩;intro m a
 simp[pattern]at a;rcases a with a|a
 .have:=b.pn m a;omega
 omega
def acs{i e:Sc}(c:jd i a)(d:spot i b a=some e):jd e (a+1):=by
 have f:=c.op;have k:=c.bm;have j:=c.zero;have g:=c.gf;have l:=c.rows;have h:=c.part;unfold spot at d;split at d
 .cases d
  exact c.of f (by simp only;omega) (by simp only;split<;>omega) g (by simp only;omega) h (by simp) rfl rfl rfl rfl (by simp)<|by simp
 split at d
 .cases d
  exact c.of f (by simp only;omega) j g (by simp only;omega) h (by simp) rfl rfl rfl rfl (by simp)<|by simp
 split at d
 .exact acq c (by omega) (by omega) d
 cases d
def Ud{j i:Sc}(c:jd j a)(d:lc j b=some i):jd i (a+1):=by
 have e:=c.op;have l:=c.bm;have f:=c.zero;have g:=c.gf;have m:=c.rows;have h:=c.part;have k:=c.ax;unfold lc at d;split at d
 .split at d
  .cases d
   exact c.of e (by omega) f g (by omega) h k rfl rfl rfl rfl (by omega)<|by omega
  cases d
  exact c.of e (by simp only;omega) f g (by simp only;omega) h (by simp) rfl rfl rfl rfl (by simp)<|by simp
 split at d
 .cases d
  exact c.of e (by simp only;omega) f g (by simp only;omega) h (by simp) rfl rfl rfl rfl (by simp)<|by simp
 exact aon c d
def acp{d:Sc}(c:jd d a)(e:b<=2:=by omega):jd {d with part:=b} a:=⟨c.op,c.bm,c.zero,c.gf,c.rows,e,c.ax,c.L,c.pa,c.pl,c.pn,c.lb,c.nm,c.m10,c.m6,c.pe,c.nc⟩
def aog{g h:Sc}(d:jd g a)(m:g.ax=0)(c:begin' g b a=some h):jd h (a+1):=by
 have i:=d.op;have n:=d.bm;have e:=d.zero;have j:=d.gf;have o:=d.rows;have f:=d.part;have k:=d.ax;unfold begin' at c;split at c
 .cases c
  exact d.of i (by omega) e j (by omega) f k rfl rfl rfl rfl (by omega)<|by omega
 split at c
 .split at c
  .cases c
   exact d.of (by simp only;omega) (by simp only;omega) e j (by simp only;omega) f (by simp) rfl rfl rfl rfl (by simp)<|by simp
  cases c
 split at c
 .cases c
  exact d.of i (by simp) e (by simp) (by simp only;omega) f (by simp) rfl rfl rfl rfl (by simp)<|by simp
 split at c
 .rename_i p l;cases c
  exact acs (acp d<|by omega) l
 exact Ud (acp d<|by omega) c
def acn{f e:Sc}(c:jd f a)(d:vf f b=some e):jd e (a+1):=by
 have g:=c.op;have j:=c.bm;have h:=c.zero;have i:=c.gf;have k:=c.rows;unfold vf at d;split at d
 .cases d
  exact c.of g (by simp only;omega) h i (by simp only;omega) (by simp) (by simp) rfl rfl rfl rfl (by simp)<|by simp
 exact Ud c d
def aoh{e f:Sc}(d:jd e a)(l:e.ax=1)(c:ua e b=some f):jd f (a+1):=by
 have h:=d.op;have m:=d.bm;have n:=d.zero;have i:=d.gf;have o:=d.rows;have j:=d.part;have k:=d.ax;unfold ua at c;have g:(if b=48 then e.zero else 1)<=1:=by split<;>omega
 generalize(if b=48 then e.zero else 1)=p at c g;split at c
 .split at c
  .cases c
   exact d.of h (by simp only;omega) g i (by simp only;omega) j k rfl rfl rfl rfl (by simp only;omega) (by simp only;omega)
  cases c
 split at c
 .cases c
 exact acn d c
def aoo{c o:Sc}{h j:Nat}(b:jd c h)(q:c.ax=10)(i:named c j h=some o):jd o (h+1):=by
 have r:=b.op;have A:=b.bm;have s:=b.zero;have t:=b.gf;have B:=b.rows;have a:=b.part;have u:=b.ax;have C:=b.pa;have D:=b.pl;have v:=b.lb;unfold named at i;split at i
 .rename_i E;have w:∃e g,Hw (if c.bm=0 then c.bu++[⟨[],h,c.cn⟩] else c.bu) j=e++[g]/\e.length<=h/\(∀d∈e,d.name.length<=h)/\g.name.length<=h+1/\(∀d∈e,∀j∈d.name,j<256)/\∀j∈g.name,j<256:=by
   by_cases k:c.bm=0
   .rw[G k,Nl];exact⟨c.bu,_,rfl,v,b.nm,by simp,b.nc,λl hd=>by simp at hd;omega⟩
   rw[N k];have m:=b.m10 q k;obtain⟨e,g,f⟩:∃e n,c.bu=e++[n]:=⟨c.bu.dropLast,c.bu.getLast m,(yzf m).symm⟩;have p:c.bu.length=e.length+1:=by rw[f];simp
   rw[f,Nl];refine⟨e,_,rfl,by omega,λd a=>b.nm d<|by rw[f];simp[a],?_,λd a=>b.nc d<|by rw[f];simp[a],λl hd=>?_⟩
   .have:=b.nm g (by rw[f];simp);simp;exact this
   rcases og.1 hd with hd|hd
   .exact b.nc g (by rw[f];simp) l hd
   simp at hd;omega
  have⟨e,g,k,F,l,m,p,x⟩:=w;rw[k]at i;cases i
  refine⟨r,by simp only;omega,s,t,by simp only;omega,a,u,b.L,by simp only;omega,by simp only;omega,λy z=>by have:=b.pn y z;omega,by simp;omega,?_,λ_ _=>by simp,λn=>by simp only at n;omega,b.pe,λd a=>(og.1 a).elim (p d) (λf=>by simp at f;rw[f];exact x)⟩;intro d a
  rcases og.1 a with a|a
  .have:=l d a;omega
  simp at a;rw[a];exact m
 split at i
 .cases i
 exact Uf b i
def aok{b i:Sc}{d f:Nat}(h:jd b d)(s:f<256)(l:b.ax=6\/b.ax=12)(c:bx b f d=some i):jd i (d+1):=by
 have m:=h.op;have D:=h.bm;have n:=h.zero;have o:=h.gf;have E:=h.rows;have p:=h.part;have t:=h.ax;have y:=h.pa;have z:=h.pl;have A:=h.lb;have u:bx b f d=(pi b f).1.map λi=>if(pi b f).2=true then {i with ax:=if b.ax=12 then 13 else 2} else i:=by
  unfold bx;rcases l with h|h<;>simp[h]
 rw[u]at c;unfold pi at c;split at c
 .simp only[if_true]at c;rcases df (whole b.L)with a|a
  .rw[a,G rfl,yxq]at c;cases c
   exact h.of m (by simp only;omega) n o (by simp only;omega) p (by simp only;split<;>omega) rfl rfl rfl rfl (by simp only;split<;>omega) (by simp only;split<;>omega)
  rw[a,N Bool.false_ne_true]at c;cases c
 have q:=h.m6 l;obtain⟨a,e,j⟩:∃a e,b.db=a++[e]:=⟨b.db.dropLast,b.db.getLast q,(yzf q).symm⟩;have v:b.db.length=a.length+1:=by rw[j];simp
 rw[j,Ny]at c;cases k:step b.L f with
 |none=>rw[k]at c;cases c
 |some B=>
  rw[k]at c;cases c
  refine⟨m,by show b.bm<=d+1;omega,n,o,by show b.rows<=d+1;omega,p,t,aid h.L s k,by show b.fp.length<=d+1;omega,by show(a++[e+1]).length<=d+1;simp;omega,?_,by show b.bu.length<=d+1;omega,λw x=>by have:=h.nm w x;omega,h.m10,λ_=>by show a++[e+1]≠[];simp,by show b.fp.length=(a++[e+1]).length;rw[h.pe,v];simp,h.nc⟩;intro r g
  rcases og.1 (show r∈a++[e+1] from g)with g|g
  .have:=h.pn r (by rw[j];simp[g]);omega
  have C:=h.pn e (by rw[j];simp);simp at g;omega
def aol{e f:Sc}(c:jd e a)(k:e.ax=13\/e.ax=14)(d:sy e b=some f):jd f (a+1):=by
 have g:=c.op;have l:=c.bm;have h:=c.zero;have i:=c.gf;have m:=c.rows;have j:=c.part;have n:=c.ax;unfold sy at d
 (repeat' split at d)<;>first|(cases d;done)|(cases d;exact c.of g (by first|omega|(simp only;omega)) h i (by first|omega|(simp only;omega)) j (by first|omega|simp) rfl rfl rfl rfl (by first|omega|simp)<|by first|omega|simp)
def aoi{j k:Sc}(c:jd j a)(l:j.ax=15)(d:uv j b=some k):jd k (a+1):=by
 have e:=c.op;have m:=c.bm;have f:=c.zero;have g:=c.gf;have n:=c.rows;have h:=c.part;have i:=c.ax;unfold uv at d;split at d
 .cases d
  exact c.of e (by simp only;omega) f g (by simp only;omega) h i rfl rfl rfl rfl (by simp only;omega) (by simp only;omega)
 split at d
 .cases d
  exact c.of e (by simp only;omega) f g (by simp only;omega) h i rfl rfl rfl rfl (by simp only;omega) (by simp only;omega)
 split at d
 .cases d
  exact c.of e (by simp only;omega) f g (by simp only;omega) h i rfl rfl rfl rfl (by simp only;omega) (by simp only;omega)
 exact Uf c d
def acr{e f:Sc}(c:jd e a)(l:e.ax=17)(d:yt e b=some f):jd f (a+1):=by
 have g:=c.op;have m:=c.bm;have h:=c.zero;have i:=c.gf;have n:=c.rows;have j:=c.part;have k:=c.ax;unfold yt at d;split at d
 .cases d
 cases d
 exact c.of g (by simp only;omega) h i (by simp only;omega) j k rfl rfl rfl rfl (by simp only;omega) (by simp only;omega)
def aco{e:Sc}{d c:Nat}(b:jd e d)(h:c<=21:=by omega)(f:c≠10:=by omega)(i:c≠6:=by omega)(g:c≠12:=by omega):jd {e with ax:=c} d:=⟨b.op,b.bm,b.zero,b.gf,b.rows,b.part,h,b.L,b.pa,b.pl,b.pn,b.lb,b.nm,λa=>cb a f,(λa=>by rcases a with a|a;exact cb a i;exact cb a g),b.pe,b.nc⟩
def aoj{e f:Sc}(d:jd e a)(k:e.ax=17\/e.ax=18)(c:pg e b=some f):jd f (a+1):=by
 have g:=d.op;have l:=d.bm;have h:=d.zero;have i:=d.gf;have m:=d.rows;have j:=d.part;have n:=d.ax;unfold pg at c;split at c
 .split at c
  .exact acr (aco d) rfl c
  cases c
 split at c
 .cases c
  exact d.of g (by simp) h i (by simp only;omega) j (by simp only;split<;>omega) rfl rfl rfl rfl (by simp) (by simp only;split<;>omega)
 split at c
 .split at c
  .cases c
   exact d.of g (by simp only;omega) h i (by simp only;omega) j (by simp) rfl rfl rfl rfl (by simp)<|by simp
  cases c
 split at c
 .cases c
 exact acr d (by omega) c
def act{c d:Sc}(b:jd c a)(j:c.ax=19)(e:some (As c)=some d):jd d (a+1):=by
 have f:=b.op;have k:=b.bm;have g:=b.zero;have h:=b.gf;have l:=b.rows;have i:=b.part;have m:=b.ax;cases e
 unfold As;exact b.of f (by simp only;omega) g h (by simp only;omega) i (by simp only;split<;>omega) rfl rfl rfl rfl (by simp only;split<;>omega) (by simp only;split<;>omega)
def aom{e f:Sc}(d:jd e a)(k:e.ax=19\/e.ax=20)(c:rj e b=some f):jd f (a+1):=by
 have g:=d.op;have l:=d.bm;have h:=d.zero;have i:=d.gf;have m:=d.rows;have j:=d.part;have n:=d.ax;unfold rj at c;split at c
 .split at c
  .exact act (aco d) rfl c
  cases c
 split at c
 .cases c
  exact d.of g (by simp only;omega) h i (by simp only;omega) j (by simp) rfl rfl rfl rfl (by simp)<|by simp
 split at c
 .cases c
 exact act d (by omega) c
def aop{f l:Sc}(e:jd f a)(m:b<256)(d:bx f b a=some l):jd l (a+1):=by
 have n:f.ax=6\/f.ax=12->jd l (a+1):=λc=>aok e m c d
 have h:=e.op;have p:=e.bm;have i:=e.zero;have j:=e.gf;have q:=e.rows;have k:=e.part;have o:=e.ax;unfold bx at d;by_cases c:f.ax=0
 .rw[G c]at d;exact aog e c d
 rw[N c]at d;clear c;by_cases c:f.ax=1
 .rw[G c]at d;exact aoh e c d
 rw[N c]at d;clear c;by_cases c:f.ax=2
 .rw[G c]at d;exact acn e d
 rw[N c]at d;clear c;by_cases c:f.ax=3
 .rw[G c]at d;exact acs e d
 rw[N c]at d;clear c;by_cases c:f.ax=4\/f.ax=5
 .rw[G c]at d;exact Ud e d
 rw[N c]at d;clear c;by_cases c:f.ax=6\/f.ax=12
 .rw[G c]at d;exact n c
 rw[N c]at d;clear c;by_cases c:f.ax=7
 .rw[G c]at d;exact Uf e d
 rw[N c]at d;clear c;by_cases c:f.ax=8
 .rw[G c]at d;by_cases g:b=32
  .rw[G g]at d;cases d
   exact e.of h (by simp only;omega) i j (by simp only;omega) k (by simp) rfl rfl rfl rfl (by simp)<|by simp
  rw[N g]at d;cases d
 rw[N c]at d;clear c;by_cases c:f.ax=9
 .rw[G c]at d;cases d
  split
  .exact e.of h (by simp only;omega) i j (by simp only;omega) k (by simp) rfl rfl rfl rfl (by simp)<|by simp
  exact e.of h (by omega) i j (by omega) k o rfl rfl rfl rfl (by omega)<|by omega
 rw[N c]at d;clear c;by_cases c:f.ax=10
 .rw[G c]at d;exact aoo e c d
 rw[N c]at d;clear c;by_cases c:f.ax=11
 .rw[G c]at d;by_cases g:b=47
  .rw[G g]at d;exact acq e (by omega) (by omega) d
  rw[N g]at d;cases d
 rw[N c]at d;clear c;by_cases c:f.ax=13\/f.ax=14
 .rw[G c]at d;exact aol e c d
 rw[N c]at d;clear c;by_cases c:f.ax=15
 .rw[G c]at d;exact aoi e c d
 rw[N c]at d;clear c;by_cases c:f.ax=16
 .rw[G c]at d;by_cases g:b=47
  .rw[G g]at d;cases d
   exact e.of h (by simp only;omega) i j (by simp) k (by simp) rfl rfl rfl rfl (by simp)<|by simp
  rw[N g]at d;cases d
 rw[N c]at d;clear c;by_cases c:f.ax=17\/f.ax=18
 .rw[G c]at d;exact aoj e c d
 rw[N c]at d;clear c;by_cases c:f.ax=19\/f.ax=20
 .rw[G c]at d;exact aom e c d
 rw[N c]at d;clear c;by_cases g:b=47
 .rw[G g]at d;cases d
  exact e.of h (by simp only;omega) i j (by simp only;omega) k (by simp) rfl rfl rfl rfl (by simp)<|by simp
 rw[N g]at d;cases d
def avt(a:List Nat):(str a).size=a.length:=by simp[str,ByteArray.size]
def Qo(a:Sc)(c b:Nat)(d:ae)(f:ez d i a)(j:jd a b)(g:c<256)(k:b<=900):
  Calls prog 53 #[.pointer<|some ⟨i,0,none⟩,.int .u8 c,.int .i64 b] d (Sd i d<|bx a c b):=by
 have h:=j.sm k;have m:a.fp.length<=1000:=by have:=j.pa;omega
 have l:a.db.length<=1000:=by have:=j.pl;omega
 have p:a.bu.length<=1000:=by have:=j.lb;omega
 have q:∀n∈a.bu,(str n.name).size<=1000:=λn r=>by rw[avt];have:=j.nm n r;omega
 have s:∀o∈a.db,o<=1000:=λo t=>by have:=j.pn o t;omega
 have v:=j.ax;by_cases e:a.ax<=5\/a.ax=7\/a.ax=10\/13<=a.ax/\a.ax<=20/\a.ax≠16
 .exact au8 i a c b d f h g m l k j.m10 p q e
 obtain e|e|e|e|e|e:(a.ax=6\/a.ax=12)\/a.ax=8\/a.ax=9\/a.ax=11\/a.ax=16\/a.ax=21:=by omega
 .exact avs i a c b d f h g (j.m6 e) s l e
 .exact avq i a c b d f g e
 .exact avr i a c b d f g e
 .exact avb i a c b d f g m l k e
 .exact avf i a c b d f g e
 exact avl i a c b d f g e
def aen:∀(d e:List Nat),(∀c∈d,c<256)->(∀c∈e,c<256)->d.map UInt8.ofNat=e.map UInt8.ofNat->d=e
 | [],[],_,_,_=>rfl
 | [],b::e,_,_,h=>by simp at h
 |a::d,[],_,_,h=>by simp at h
 |a::d,b::e,f,g,h=>by
  simp only[vw,yxs]at h;have j:a=b:=by
   have i:=f a (by simp);have k:=g b (by simp);have:=congrArg UInt8.toNat h.1;simp at this;omega
  rw[j,aen d e (λc i=>f c<|by simp[i]) (λc i=>g c<|by simp[i]) h.2]
def str_inj{a b:List Nat}(d:∀c∈a,c<256)(e:∀c∈b,c<256)(f:str a=str b):a=b:=by
 apply aen a b d e;have:=congrArg (λg:ag=>g.data.toList) f;simpa[str]using this
def Di(L:List Qja)(i k:Nat):Bool:=match L[k]?,L[i]? with
 |some a,some b=>a.cn&&decide (str a.name=str b.name)
 |_,_=>false
def zr(L:List Qja)(i:Nat):Nat->Bool
 |0=>false
 |k+1=>zr L i k||Di L i k
def Au(L:List Qja)(i:Nat):Nat->Bool
 |0=>false
 |k+1=>Au L i k||(Di L i k&&decide (k<i))
def ai8(c:List Qja)(d:Nat):∀n,zr c d n=true↔∃a,a<n/\Di c d a=true
 |0=>by simp[zr]
 |n+1=>by
  rw[zr,uz,ai8 c d n];constructor
  .rintro(⟨a,e,b⟩|h)
   .exact⟨a,by omega,b⟩
   exact⟨n,by omega,h⟩
  rintro⟨a,e,b⟩;by_cases f:a=n
  .subst f;exact .inr b
  exact .inl ⟨a,by omega,b⟩
def ajd(d:List Qja)(c:Nat):∀n,Au d c n=true↔∃a,a<n/\a<c/\Di d c a=true
 |0=>by simp[Au]
 |n+1=>by
  rw[Au,uz,ajd d c n,Aw,xz];constructor
  .rintro(⟨a,f,b⟩|h)
   .exact⟨a,by omega,b⟩
   exact⟨n,by omega,h.2,h.1⟩
  rintro⟨a,f,b,e⟩;by_cases g:a=n
  .subst g;exact .inr ⟨e,b⟩
  exact .inl ⟨a,by omega,b,e⟩
def Qf{d:List Qja}(h:∀l∈d,∀j∈l.name,j<256){e:Qja}(i:d[a]?=some e):Di d a b=true↔∃c,d[b]?=some c/\c.cn=true/\c.name=e.name:=by
 unfold Di;rw[i];cases k:d[b]? with
 |none=>simp
 |some c=>
  simp only[Aw,xz,Option.some.injEq];constructor
  .rintro⟨f,g⟩;exact⟨c,rfl,f,str_inj (h c<|qy k) (h e<|qy i) g⟩
  rintro⟨m,rfl,f,g⟩;exact⟨f,by rw[g]⟩
def ak3{b:Sc}(j:∀q∈b.bu,∀p∈q.name,p<256){i:Qja}(c:b.bu[a]?=some i):vd b a↔((i.cn&&Au b.bu a b.bu.length)|| !zr b.bu a b.bu.length)=true:=by
 have v:=(jy.1 c).1;have r:zr b.bu a b.bu.length=false↔¬∃d,d<b.bu.length/\Di b.bu a d=true:=by
  rw[<-ai8];simp
 rw[uz,Aw,zyf,r,ajd];constructor
 .rintro⟨u,l,h⟩;rw[c]at l;cases l
  rcases h with⟨m,n,o,k,f,g,s⟩|h
  .exact .inl ⟨m,n,by omega,k,(Qf j c).2 ⟨o,f,g,s⟩⟩
  refine .inr λ⟨d,_,t⟩=>h ?_
  have⟨e,k,f,g⟩:=(Qf j c).1 t;exact⟨d,e,k,f,g⟩
 rintro(⟨m,d,k,f,g⟩|h)
 .have⟨e,l,n,o⟩:=(Qf j c).1 g;exact⟨i,c,.inl ⟨m,d,e,f,l,n,o⟩⟩
 refine⟨i,c,.inr λ⟨d,e,l,n,o⟩=>h ⟨d,(jy.1 l).1,(Qf j c).2 ⟨e,l,n,o⟩⟩⟩
def aw8:zeroCells119=(gw yu (.slice none 0 0) (.slice none 0 0)<|.slice none 0 0).toArray:=by kernel_rfl
def ez.new(b:ae):ez (b.alloc<|Obj.cells zeroCells119 119) b.heap.size yu:=by
 rw[aw8];exact⟨.slice none 0 0,.slice none 0 0,.slice none 0 0,bd.new b _ _,yyc _ _ _ _,yyc _ _ _ _,yyc _ _ _ _,(λc a=>by cases a),(λc a=>by cases a),(λc a=>by cases a)⟩
def ez.drewN{c:ae}{a:Nat}{d:Sc}(b:ez c a d):∀n,ez (c.drewN n) a d
 |0=>b
 |n+1=>(b.drewN n).drew
def Ue{b:ag}:∀(i:Nat)(a:Sc),ed b i=some a->jd a i
 |0,a,h=>by cases h;exact aof
 |i+1,a,h=>by
  simp only[ed,Ey]at h;have⟨e,c,d⟩:=h;exact aop (Ue i e c) (ms b i) d
def nw.wj{k:Sc}(p:nw w a k x y (aa b k.bu.length c)){h:Qja}(l:k.bu[d]?=some h)(g:Nat)(j:af)(m: [Value.string<|str h.name,I h.H,.bool h.cn][g]?=some j):w.cell? (O b<|d*3+g)=some j:=by
 have s:=(jy.1 l).1;have q:g<3:=by have:=(jy.1 m).1;simpa using this
 rw[p.o3.cellAt (d*3+g)<|by omega];have n:∀(e:List Qja)(d:Nat),e[d]?=some h->(xb e)[d*3+g]?=some j:=by
  intro e
  induction e with
  |nil=>intro d f;simp at f
  |cons i e r=>
   intro d f
   have o:xb (i::e)=[Value.string<|str i.name,I i.H,.bool i.cn]++xb e:=by simp[xb]
   rw[o];cases d with
   |zero=>
    simp at f;subst f;rw[zyh,qo,oq<|by simpa using q];exact m
   |succ d=>
    rw[sn<|by simp;omega];have:=r d (by simpa using f);rw[<-this];congr 1;simp;omega
 exact n _ d l
