import Derived.Test.YtbhkdlpdolioaaaP2
import Derived.Test.YtbhkdlpdolioaaaP4
import Derived.Test.YtbhkdlpdolioaaaP19
import Derived.Test.YtbhkdlpdolioaaaP22
import Derived.Test.YtbhkdlpdolioaaaP23
set_option linter.unusedVariables false
set_option linter.unusedSimpArgs false
set_option maxHeartbeats 8000000
set_option maxRecDepth 100000
namespace Go.Proofs.Ytbhkdlpdolioaaa
open Go.RowKit
theorem aaz (w:World):Rd w (.slice none 0 0) []:=⟨none,0,rfl,Nat.le_refl _,Nat.zero_le _,fun _=>rfl,fun x hx=>by cases hx⟩
theorem aah (l:List UInt8):(aam l).length=32:=adc _
theorem aeE (af9 v:Value)(l m:List UInt8)(b:Bool)(w:World)(h:Rd w af9 l)(h':Rd w v m)(hb:decide (l=m)=b):
  Calls Try.prog 18 #[af9,v] w fun e w'=>e=.returned (.bool b)∧w=w':=by
 have:=ae2 af9 v l m w h h';rw[hb] at this;exact this
theorem af1 (v:Value)(l:List UInt8)(w:World)(h:Rd w v l)(hl:l.length≤2000):
  Calls Try.prog 48 #[v] w fun e w'=>(∃ a c,e=.returned (.slice a 32 c)∧Rd w' (.slice a 32 c) (aam l))∧Kp w w':=by
 refine (afI v l w h hl).mono ?_;rintro e w' ⟨⟨v',rfl,hr⟩,hk⟩;obtain ⟨a,c,rfl,_,_⟩:=hr.shape;rw[aah] at hr ⊢;exact ⟨⟨a,c,rfl,hr⟩,hk⟩
theorem afJ (v:Value)(l:List UInt8)(w:World)(h:Rd w v l)(hl:l.length≤2000):
  Calls Try.prog 48 #[v] w fun e w'=>(∃ a c,e=.returned (.slice a 32 c)∧Ow 5 w' w.heap.size (.slice a 32 c) (aam l))∧Kp w w':=by
 refine (acT v l w h hl).mono ?_;rintro e w' ⟨⟨v',rfl,hr⟩,hk⟩;obtain ⟨a,c,rfl,_,_⟩:=hr.rd.shape;rw[aah] at hr ⊢;exact ⟨⟨a,c,rfl,hr⟩,hk⟩
theorem aa8 (k:List UInt8):(keyB k).length=64:=by
 unfold keyB;split
 ·exact acd _ (by rw[aah];omega)
 ·exact acd _ (by omega)
theorem aeF (v:Value)(l:List UInt8)(w:World)(h:Rd w v l)(hl:l.length≤2000):
  Calls Try.prog 90 #[v] w fun e w'=>(∃ g,e=.returned (.slice (some ⟨g,0,none⟩) 64 64)∧By 5 w' g (keyB l)∧w.heap.size≤g)∧Kp w w':=by
 have U:=af8;obtain ⟨a,c,rfl,h1,h2⟩:=h.shape;unfold maxLen at h2;have HF:Hid (∀ W:World,By 5 (W.alloc (.cells (Array.replicate 64 (.int .u8 0)) 5)) W.heap.size (List.replicate 64 0)):=fun W=>By.fresh _ _ _
 have hb:∀ k:List UInt8,k.length≤64→k++(List.replicate 64 (0:UInt8)).drop k.length=blkB k:=fun k hk=>by unfold blkB;rw[List.drop_replicate]
 have HB:=Lib.hid hb;clear hb;by_cases hlt:64<l.length
 ·have hK:keyB l=blkB (aam l):=by unfold keyB;rw[if_pos hlt]
  have HK:=Lib.hid hK;have HD:=Lib.hid (aah l);have hlt':64<(l.length:Int):=by omega
  clear hK;go_enter Try.func90,Try.ntmps90;go_wp2_with fail;refine (af1 _ l _ h hl).mono ?_;rintro e w1 ⟨⟨a1,c1,rfl,r1⟩,k1⟩;go_wp2_with (first
   | (at_make;refine aak (z:=.int .u8 0) (b:=1) Try.underlying22 Try.info5 rfl (by decide) rfl _ _ rfl 64 rfl rfl (by omega) ?_;intro w2 hw2;have hg2:By 5 w2 w1.heap.size (List.replicate 64 0):=(by rw[hw2];exact HF w1);have hk2:Kp w1 w2:=(by rw[hw2];exact (Kp.refl _).alloc _);clear hw2)
   | (refine abp U rfl (.tmp 10) (.tmp 11) rfl 5 w1.heap.size _ (aam l) (List.replicate 64 0) 64 64 rfl rfl hg2 (by simp) (r1.kp hk2) (by rw[HD.out];omega) ?_;intro w3 hg3 hbut))
  go_ret;rw[HB.out _ (by rw[HD.out];omega)] at hg3;refine ⟨⟨_,rfl,by rw[HK.out];exact hg3,k1.size⟩,hbut.below (k1.trans hk2) k1.size⟩
 ·have hK:keyB l=blkB l:=by unfold keyB;rw[if_neg hlt]
  have HK:=Lib.hid hK;have hlt':¬64<(l.length:Int):=by omega
  clear hK;go_enter Try.func90,Try.ntmps90;go_wp2_with (first
   | (at_make;refine aak (z:=.int .u8 0) (b:=1) Try.underlying22 Try.info5 rfl (by decide) rfl _ _ rfl 64 rfl rfl (by omega) ?_;intro w2 hw2;have hg2:By 5 w2 w.heap.size (List.replicate 64 0):=(by rw[hw2];exact HF w);have hk2:Kp w w2:=(by rw[hw2];exact (Kp.refl _).alloc _);clear hw2)
   | (refine abp U rfl (.tmp 10) (.tmp 11) rfl 5 w.heap.size _ l (List.replicate 64 0) 64 64 rfl rfl hg2 (by simp) (h.kp hk2) (by omega) ?_;intro w3 hg3 hbut))
  go_ret;rw[HB.out _ (by omega)] at hg3;refine ⟨⟨_,rfl,by rw[HK.out];exact hg3,Nat.le_refl _⟩,hbut.below hk2 (Nat.le_refl _)⟩
def catB (B:Nat→List UInt8):Nat→List UInt8
 | 0=>[]
 | i+1=>catB B i++B i
theorem aaY (B:Nat→List UInt8)(h:∀ i,(B i).length=32):∀ N,(catB B N).length=32*N
 | 0=>rfl
 | N+1=>by rw[catB,List.length_append,aaY B h N,h N];omega
theorem ady (B:Nat→List UInt8)(i k:Nat):∃ r,catB B (i+k)=catB B i++r:=by
 induction k with
 | zero=>exact ⟨[],by simp⟩
 | succ k ih=>obtain ⟨r,hr⟩:=ih;exact ⟨r++B (i+k),by rw[← Nat.add_assoc,catB,hr,List.append_assoc]⟩
def abH (B:Nat→List UInt8)(n:Nat):List UInt8:=(catB B ((n+31) / 32)).take n
theorem ack (B:Nat→List UInt8)(h:∀ i,(B i).length=32)(n N:Nat)(hn:n≤32*N):abH B n=(catB B N).take n:=by
 obtain ⟨r,hr⟩:=ady B ((n+31) / 32) (N - (n+31) / 32);have hle:(n+31) / 32≤N:=by omega
 rw[show (n+31) / 32+(N - (n+31) / 32)=N by omega] at hr;rw[hr,List.take_append_of_le_length (by rw[aaY B h];omega)];rfl
theorem aba (B:Nat→List UInt8)(h:∀ i,(B i).length=32)(n:Nat):(abH B n).length=n:=by
 unfold abH;rw[List.length_take,aaY B h];omega
theorem adz (B:Nat→List UInt8)(h:∀ i,(B i).length=32)(n i j:Nat)(hj:j<32)(hn:32*i+(j+1)=n):catB B i++(B i).take (j+1)=abH B n:=by
 have e:n - 32*i=j+1:=by omega
 have hl:=aaY B h i;rw[ack B h n (i+1) (by omega),catB,List.take_append,hl,e,List.take_of_length_le (l:=catB B i) (by omega)]
theorem adA (B:Nat→List UInt8):abH B 0=[]:=rfl
theorem afS (B:Nat→List UInt8)(h:∀ i,(B i).length=32):abH B 32=B 0:=by
 rw[ack B h 32 1 (by omega),catB,catB,List.nil_append,List.take_of_length_le (by rw[h];omega)]
theorem aaI (k b:List UInt8):(macB k b).length=32:=aah _
theorem afe (k:List UInt8):keyB (keyB k)=keyB k:=by
 have h:=aa8 k;obtain ⟨K,hK⟩:∃ K,keyB k=K:=⟨_,rfl⟩;rw[hK] at h ⊢;unfold keyB blkB;rw[if_neg (by omega),h];simp
theorem aff (k b:List UInt8):macB (keyB k) b=macB k b:=by unfold macB;rw[afe]
def expT (k info:List UInt8):Nat→List UInt8
 | 0=>macB k (info++be 1 1)
 | i+1=>macB k (expT k info i++info++be 1 (i+2))
theorem aaB (k info:List UInt8):∀ i,(expT k info i).length=32
 | 0=>aaI _ _
 | _+1=>aaI _ _
def expP (k info:List UInt8):Nat→List UInt8
 | 0=>[]
 | i+1=>expT k info i
theorem adj (k info:List UInt8)(i:Nat):expT k info i=macB k (expP k info i++info++be 1 (i+1)):=by
 cases i with
 | zero=>simp[expT,expP]
 | succ i=>rfl
theorem acl (k info:List UInt8):∀ i,(expP k info i).length≤32
 | 0=>by simp[expP]
 | i+1=>by rw[expP,aaB];omega
def expL (k info:List UInt8)(n:Nat):List UInt8:=abH (expT k info) n
end Go.Proofs.Ytbhkdlpdolioaaa
