import Derived.Test.YtppjlpihaocdiaaGreatDoorProg
import Derived.Lib.Strings
import Derived.Lib.Slices
import Derived.Lib.Small
import Derived.Lib.Walk
import Derived.Lib.BitFns
set_option linter.all false
set_option maxRecDepth 100000
set_option maxHeartbeats 16000000
namespace Go.Proofs.YtppjlpihaocdiaaGreatDoor
def Ej(x y:Int)(k d:Nat)(h:0<=y)(h':y<=255)(e:y.toNat=x.toNat/d)(hs:Lib.bitLen x.toNat=k+Lib.bitLen (x.toNat/d)):Lib.len8 y=(Lib.bitLen x.toNat:Int)-k/\Lib.len8 y<=8/\0<=Lib.len8 y:=by
 have l:=Lib.bitLen_le8' y h h'
 rw[Lib.len8_of y h h',hs,<-e]
 omega
def aeh(x:Int)(w:World)(h0:0<=x)(h1:x<=18446744073709551615):
  Calls Tryz.prog 107 #[.int .u64 x] w λe w'=>e=.returned (.int .i64<|Lib.bitLen x.toNat)/\w'=w:=by
 go_enter Tryz.func107,Tryz.ntmps107
 go_wp2
 all_goals (go_ret;refine⟨congrArg Ending.returned<|congrArg (Value.int IntKind.i64) ?_,rfl⟩)
 all_goals first
  |(let⟨a,b,c⟩:=Ej x (x/4294967296/65536/256%256) 56 72057594037927936 (by omega) (by omega) (by omega) (Lib.bitLen_shift56 _ (by omega)<|by omega);omega)
  |(let⟨a,b,c⟩:=Ej x (x/4294967296/65536%256) 48 281474976710656 (by omega) (by omega) (by omega) (Lib.bitLen_shift48 _ (by omega)<|by omega);omega)
  |(let⟨a,b,c⟩:=Ej x (x/4294967296/256%256) 40 1099511627776 (by omega) (by omega) (by omega) (Lib.bitLen_shift40 _ (by omega)<|by omega);omega)
  |(let⟨a,b,c⟩:=Ej x (x/4294967296%256) 32 4294967296 (by omega) (by omega) (by omega) (Lib.bitLen_shift32 _ (by omega)<|by omega);omega)
  |(let⟨a,b,c⟩:=Ej x (x/65536/256%256) 24 16777216 (by omega) (by omega) (by omega) (Lib.bitLen_shift24 _ (by omega)<|by omega);omega)
  |(let⟨a,b,c⟩:=Ej x (x/65536%256) 16 65536 (by omega) (by omega) (by omega) (Lib.bitLen_shift16 _ (by omega)<|by omega);omega)
  |(let⟨a,b,c⟩:=Ej x (x/256%256) 8 256 (by omega) (by omega) (by omega) (Lib.bitLen_shift8 _ (by omega)<|by omega);omega)
  |(let⟨a,b,c⟩:=Ej x (x%256) 0 1 (by omega) (by omega) (by omega) (by rw[Nat.div_one,Nat.zero_add]);omega)
def Ia(x:Nat)(h0:x≠0)(h:x<2^64):1<=Lib.bitLen x/\Lib.bitLen x<=64/\x.testBit (Lib.bitLen x-1)=true/\∀q,Lib.bitLen x<=q->x.testBit q=false:=by
 have key:∀n:Nat,n≠0->n<2^64->Lib.bitLen n=Nat.log2 n+1:=by
  intro n
  induction n using Nat.strongRecOn with
  |_ n ih=>
   intro h0 h
   rw[Lib.bitLen_half n h0 h,Nat.log2_def n]
   by_cases h2:2<=n
   ·rw[if_pos h2,ih (n/2) (by omega) (by omega)<|by omega];omega
   ·obtain rfl:n=1:=by omega
    decide
 have e:=key x h0 h
 have hl:Nat.log2 x<64:=(Nat.log2_lt h0).2 h
 refine⟨by omega,by omega,?_,λq hq=>?_⟩
 ·rw[e,Nat.add_sub_cancel]
  exact Nat.testBit_log2 h0
 ·exact Nat.testBit_lt_two_pow (Nat.lt_of_lt_of_le ((Nat.log2_lt h0).1<|Nat.lt_succ_self _)<|Nat.pow_le_pow_right (by decide)<|by omega)
