/-
  THE PROGRAM's READER
  THE LIBRARY's ParseUint at four bytes, base 16, 16 bits
  THE PROGRAM's READER
-/
import Derived.Test.YtpgcidpghmoibaaGreatDoorK05
import Derived.Test.YtpgcidpghmoibaaGreatDoorK03
import Derived.Lib.Strings
import Derived.Lib.Walk
import Derived.Lib.ConvBytes
import Derived.Lib.AtoiAllMem
import Derived.Lib.Hide
import Derived.Laws.Strings3
import Derived.Laws.Closers25
import Derived.Laws.Closers25b
import Derived.BigCall
import Derived.BigGuard
import Derived.Lib.QuietBelow
namespace Go.Proofs.YtpgcidpghmoibaaGreatDoor
namespace Pr
open Go.RowKit
open Rf (Kept)
theorem drewN_drewN (w:World) (n m:Nat):(w.drewN n).drewN m=w.drewN (n + m):=by simp [World.drewN,Nat.add_assoc]
theorem ret_bool {a b:Bool} (h:a=b):Ending.returned (.bool a)=.returned (.bool b):=by rw [h]
theorem ret_int {k:IntKind} {a b:Int} (h:a=b):Ending.returned (.int k a)=.returned (.int k b):=by rw [h]
set_option maxRecDepth 100000 in
set_option maxHeartbeats 400000 in
theorem fail_any (w:World) (b:Nat) (s:ByteArray) (c:C) (m vR:Value) (p e:Nat) (hR:RB w b s c m vR) :
    Calls Tryz.prog 127 #[.pointer (some ⟨b,0,none⟩),.int .i64 (p:Int),.int .i64 (e:Int)] w fun r w'=>r=.returned (.bool false)∧RB w' b s { c with p:=p,e:=e } m vR∧On b w w':=by
  obtain ⟨c0,c1,c2,c3,c4,c5,c6,fr⟩:=hR.reads
  go_enter Tryz.func127,Tryz.ntmps127
  go_wp2
  go_ret
  exact ⟨rfl,(hR.setP p).setE e,((On.refl b w).set _ _).set _ _⟩
set_option maxRecDepth 100000 in
set_option maxHeartbeats 400000 in
theorem peek_any (w:World) (b:Nat) (s:ByteArray) (c:C) (m vR:Value) (hR:RB w b s c m vR) (_hs:s.size≤2000) (hi:c.i≤s.size) :
    Calls Tryz.prog 98 #[.pointer (some ⟨b,0,none⟩)] w fun r w'=>r=.returned (.int .u8 (pkV s c.i))∧∃ n,w'=w.drewN n:=by
  obtain ⟨c0,c1,c2,c3,c4,c5,c6,fr⟩:=hR.reads
  by_cases h:c.i < s.size
  · have hlt':(c.i:Int) < (s.size:Int):=by omega
    have hne:¬ (c.i:Int)=(s.size:Int):=by omega
    have hb:(s[c.i]'h).toNat < 256:=by rw [U.at_get];exact U.at_lt s c.i
    have E:Hid (pkV s c.i=((s[c.i]'h).toNat:Int)):=by
      show pkV s c.i=_
      rw [pkV,if_pos h,U.at_get]
    go_enter Tryz.func98,Tryz.ntmps98
    go_wp2
    go_quiet (fail)
    go_wp2
    go_quiet (fail)
    go_wp2
    go_ret
    refine ⟨ret_int ?_,_,drewN_drewN _ _ _⟩
    rw [E.out]
  · have he:(c.i:Int)=(s.size:Int):=by omega
    have E:Hid (pkV s c.i=0):=by
      show pkV s c.i=_
      rw [pkV,if_neg h]
    go_enter Tryz.func98,Tryz.ntmps98
    go_wp2
    go_quiet (fail)
    go_wp2
    go_ret
    refine ⟨ret_int ?_,_,rfl⟩
    rw [E.out]
theorem com_index (s:ByteArray):∀ (n i:Nat),s.size - i≤n→i≤s.size →
    (Lib.indexByte (s.extract i s.size).data.toList 10=-1∧G.com s i=s.size) ∨ (∃ k:Nat,Lib.indexByte (s.extract i s.size).data.toList 10=(k:Int)∧G.com s i=i + k)
  | 0,i,h,hi=>by
    have e:i=s.size:=by omega
    subst e
    left
    refine ⟨?_,G.com_end (by omega)⟩
    have:(s.extract s.size s.size).data.toList=[]:=List.eq_nil_of_length_eq_zero (by simp [← ByteArray.size_data])
    rw [this]
    rfl
  | n + 1,i,h,hi=>by
    by_cases hlt:i < s.size
    · have hc:(s.extract i s.size).data.toList=s[i]'hlt :: (s.extract (i + 1) s.size).data.toList:=by
        have h1:(s.extract i s.size).data.toList=s.data.toList.drop i:=by
          simp only [ByteArray.data_extract,Array.toList_extract,List.extract_eq_take_drop,← ByteArray.size_data]
          exact List.take_of_length_le (by simp)
        have h2:(s.extract (i + 1) s.size).data.toList=s.data.toList.drop (i + 1):=by
          simp only [ByteArray.data_extract,Array.toList_extract,List.extract_eq_take_drop,← ByteArray.size_data]
          exact List.take_of_length_le (by simp)
        rw [h1,h2,List.drop_eq_getElem_cons (by simpa [← ByteArray.size_data] using hlt)]
        rfl
      have hg:(s[i]'hlt).toNat=U.at' s i:=U.at_get s i hlt
      rw [hc]
      by_cases h10:U.at' s i=10
      · right
        refine ⟨0,?_,by rw [G.com_end (by omega)];rfl⟩
        have:s[i]'hlt=10:=UInt8.toNat_inj.1 (by rw [hg,h10];rfl)
        simp [Lib.indexByte,this]
      · have hne:¬ s[i]'hlt=10:=by intro e;rw [e] at hg;exact h10 hg.symm
        rw [G.com_step hlt h10]
        rcases com_index s n (i + 1) (by omega) (by omega) with ⟨a1,a2⟩ | ⟨k,a1,a2⟩
        · left
          refine ⟨?_,a2⟩
          rw [Lib.indexByte,if_neg (by simpa using hne),a1]
          rfl
        · right
          refine ⟨k + 1,?_,by rw [a2];omega⟩
          rw [Lib.indexByte,if_neg (by simpa using hne),a1,if_neg (by simp)]
          rfl
    · exact com_index s 0 i (by omega) hi
set_option maxRecDepth 100000 in
set_option maxHeartbeats 1000000 in
theorem skipc_any (w:World) (b:Nat) (s:ByteArray) (c:C) (m vR:Value) (hR:RB w b s c m vR) (hs:s.size≤2000) (hi:c.i≤s.size) :
    Calls Tryz.prog 99 #[.pointer (some ⟨b,0,none⟩)] w fun r w'=>r=.returned (.tuple #[])∧RB w' b s { c with i:=G.com s c.i } m vR∧On b w w':=by
  obtain ⟨c0,c1,c2,c3,c4,c5,c6,fr⟩:=hR.reads
  have h0:(0:Int)≤(c.i:Int):=by omega
  have h1:(c.i:Int)≤(s.size:Int):=by omega
  have hcl:=G.com_le s _ c.i (Nat.le_refl _) hi
  have hcg:=G.com_ge s _ c.i (Nat.le_refl _)
  have hN:=Tryz.strings_IndexByte (s.extract c.i s.size) 10
  rcases com_index s _ c.i (Nat.le_refl _) hi with ⟨e1,e2⟩ | ⟨k,e1,e2⟩
  · have hN2:∀ w,Calls Tryz.prog 123 #[.string (s.extract c.i s.size),.int .u8 10] w fun e w'=>e=.returned (.int .i64 (-1))∧w'=w:=fun w=>by
      have:=hN w
      rw [show ((10:Int).toNat.toUInt8)=10 from rfl,e1] at this
      exact this
    clear hN
    have HX:Hid _:=And.intro e1 e2
    clear e1 e2
    go_enter Tryz.func99,Tryz.ntmps99
    go_wp2
    go_quiet ((go_at_call 123;refine Calls.quiet_of_same (hN2 _)))
    go_wp2
    go_quiet (fail)
    go_wp2
    go_end0
    have e:(c.i:Int) + ((s.size:Int) - (c.i:Int))=((G.com s c.i:Nat):Int):=by rw [HX.out.2];omega
    rw [e]
    exact ⟨rfl,(hR.drewN _).setI _,((On.refl b w).drewN _).set _ _⟩
  · have hN2:∀ w,Calls Tryz.prog 123 #[.string (s.extract c.i s.size),.int .u8 10] w fun e w'=>e=.returned (.int .i64 (k:Int))∧w'=w:=fun w=>by
      have:=hN w
      rw [show ((10:Int).toNat.toUInt8)=10 from rfl,e1] at this
      exact this
    clear hN
    have hk:k≤2000:=by omega
    have HX:Hid _:=And.intro e1 e2
    clear e1 e2
    go_enter Tryz.func99,Tryz.ntmps99
    go_wp2
    go_quiet ((go_at_call 123;refine Calls.quiet_of_same (hN2 _)))
    go_wp2
    go_end0
    have e:(c.i:Int) + (k:Int)=((G.com s c.i:Nat):Int):=by rw [HX.out.2];omega
    rw [e]
    exact ⟨rfl,(hR.drewN _).setI _,((On.refl b w).drewN _).set _ _⟩
theorem pkV_ne {s:ByteArray} {i:Nat} {c:Int} (hc:0 < c) (h:¬ G.pk s i=c):¬ pkV s i=c:=fun e=>h ((pkV_eq hc).1 e)
set_option maxRecDepth 100000 in
set_option maxHeartbeats 1000000 in
theorem skip_any (w:World) (b:Nat) (s:ByteArray) (c:C) (m vR:Value) (hR:RB w b s c m vR) (hs:s.size≤2000) (hi:c.i≤s.size) :
    Calls Tryz.prog 76 #[.pointer (some ⟨b,0,none⟩)] w fun r w'=>r=.returned (.tuple #[])∧RB w' b s { c with i:=G.skip s c.i } m vR∧On b w w':=by
  go_enter Tryz.func76,Tryz.ntmps76
  go_wp2
  go_loopw [2] (fun _ wr=>∃ j,j≤s.size∧RB wr b s { c with i:=j } m vR∧On b w wr∧G.skip s j=G.skip s c.i) (fun _ wr=>s.size - posOf b wr)
  case atStart=>exact ⟨c.i,hi,hR,On.refl b w,rfl⟩
  case round =>
    obtain ⟨j,hj,hRj,hE,hsk⟩:=hrel
    have HP:Hid (posOf b wr=j):=hRj.pos
    have HS:Hid (G.skip s j=G.skip s c.i):=hsk
    clear hsk
    have hN:=peek_any wr b s _ m vR hRj hs hj
    obtain ⟨c0,c1,c2,c3,c4,c5,c6,fr⟩:=hRj.reads
    have hpe:=@pkV_eq s j
    by_cases h35:G.pk s j=35
    · have hlt:=G.lt_of_pk (s:=s) (i:=j) (by omega)
      have h35':U.at' s j ≠ 10:=by rw [G.pk_lt hlt] at h35;omega
      rw [show pkV s ({ c with i:=j }:C).i=35 from (hpe (by omega)).2 h35] at hN
      clear hpe
      go_wp2_with (first
        | (go_at_call 98;refine hN.mono ?_;rintro e w1 ⟨rfl,n,rfl⟩)
        | (go_at_call 99;refine (skipc_any _ b s _ m vR (hRj.drewN n) hs hj).mono ?_;rintro e w2 ⟨rfl,hR2,hE2⟩))
      go_roundw
      case rel=>exact ⟨_,G.com_le s _ j (Nat.le_refl _) hj,hR2,(hE.drewN n).trans hE2,by rw [← HS.out,G.skip_com h35]⟩
      case measure =>
        have:=G.com_ge s _ (j + 1) (Nat.le_refl _)
        rw [hR2.pos,HP.out]
        show s.size - G.com s j < _
        rw [G.com_step hlt h35']
        omega
    · by_cases hbl:G.pk s j=32 ∨ G.pk s j=9 ∨ G.pk s j=10
      · have hlt:=G.lt_of_pk (s:=s) (i:=j) (by omega)
        have hv:pkV s j=G.pk s j:=(hpe (by omega)).2 rfl
        rw [show pkV s ({ c with i:=j }:C).i=G.pk s j from hv] at hN
        clear hpe hv
        generalize hp:G.pk s j=p at h35 hN hbl
        have HB:Hid (G.pk s j=p):=hp
        clear hp
        rcases hbl with rfl | rfl | rfl
        all_goals
          go_wp2_with (go_at_call 98;refine hN.mono ?_;rintro e w1 ⟨rfl,n,rfl⟩)
          go_roundw
          case rel=>exact ⟨j + 1,by omega,(hRj.drewN _).setI (j + 1),(hE.drewN _).set _ _,by rw [← HS.out,G.skip_blank (i:=j) (by have:=HB.out;omega)]⟩
          case measure =>
            rw [HP.out,(hRj.drewN _).inc.pos]
            show s.size - (j + 1) < _
            omega
      · have HB:Hid (G.skip s j=j):=G.skip_end h35 hbl
        have hb1:=pkV_ne (s:=s) (i:=j) (c:=32) (by omega) (fun h=>hbl (.inl h))
        have hb2:=pkV_ne (s:=s) (i:=j) (c:=9) (by omega) (fun h=>hbl (.inr (.inl h)))
        have hb3:=pkV_ne (s:=s) (i:=j) (c:=10) (by omega) (fun h=>hbl (.inr (.inr h)))
        have hb4:=pkV_ne (s:=s) (i:=j) (c:=35) (by omega) h35
        change Calls _ _ _ _ (fun r w'=>r=.returned (.int .u8 (pkV s j))∧_) at hN
        generalize pkV s j=p at hN hb1 hb2 hb3 hb4
        clear hpe h35 hbl
        go_wp2_with (go_at_call 98;refine hN.mono ?_;rintro e w1 ⟨rfl,n,rfl⟩)
        refine bodyPost_ret (results_none rfl _ _ _) rfl ?_
        refine ⟨rfl,?_,hE.drewN _⟩
        rw [← HS.out,HB.out]
        exact hRj.drewN _
set_option maxRecDepth 100000 in
set_option maxHeartbeats 400000 in
theorem step_any (w:World) (b:Nat) (s:ByteArray) (c:C) (m vR:Value) (n:Nat) (hR:RB w b s c m vR) (hs:s.size≤2000) (hi:c.i + n≤s.size) :
    Calls Tryz.prog 125 #[.pointer (some ⟨b,0,none⟩),.int .i64 (n:Int)] w fun r w'=>r=.returned (.tuple #[])∧RB w' b s { c with i:=G.skip s (c.i + n) } m vR∧On b w w':=by
  obtain ⟨c0,c1,c2,c3,c4,c5,c6,fr⟩:=hR.reads
  have hN:=skip_any _ b s _ m vR (hR.add n) hs hi
  go_enter Tryz.func125,Tryz.ntmps125
  go_wp2_with (go_at_call 76;refine hN.mono ?_;rintro e w1 ⟨rfl,hR1,hE1⟩)
  go_end0
  exact ⟨rfl,hR1,((On.refl b w).set _ _).trans hE1⟩
def takeB (s:ByteArray) (i:Nat) (k:Nat):Bool:=decide (G.pk s i=(k:Int))
def takeC (s:ByteArray) (c:C) (k:Nat):C:=if G.pk s c.i=(k:Int) then { c with i:=G.skip s (c.i + 1) } else c
set_option maxRecDepth 100000 in
set_option maxHeartbeats 400000 in
theorem take_any (w:World) (b:Nat) (s:ByteArray) (c:C) (m vR:Value) (k:Nat) (hk:0 < k) (hR:RB w b s c m vR) (hs:s.size≤2000) (hi:c.i≤s.size) :
    Calls Tryz.prog 126 #[.pointer (some ⟨b,0,none⟩),.int .u8 (k:Int)] w fun r w'=>r=.returned (.bool (takeB s c.i k))∧RB w' b s (takeC s c k) m vR∧On b w w':=by
  have hN:=peek_any w b s c m vR hR hs hi
  by_cases h:G.pk s c.i=(k:Int)
  · have hlt:=G.lt_of_pk (s:=s) (i:=c.i) (by omega)
    rw [(pkV_eq (by omega)).2 h] at hN
    rw [show takeB s c.i k=true by simp [takeB,h],show takeC s c k={ c with i:=G.skip s (c.i + 1) } by rw [takeC,if_pos h]]
    go_enter Tryz.func126,Tryz.ntmps126
    go_wp2_with (first
      | (go_at_call 98;refine hN.mono ?_;rintro e w1 ⟨rfl,n,rfl⟩)
      | (go_at_call 125;refine (step_any _ b s c m vR 1 (hR.drewN n) hs hlt).mono ?_;rintro e w2 ⟨rfl,hR2,hE2⟩))
    go_ret
    exact ⟨rfl,hR2,((On.refl b w).drewN _).trans hE2⟩
  · have hne:=pkV_ne (s:=s) (i:=c.i) (c:=(k:Int)) (by omega) h
    rw [show takeB s c.i k=false by simp [takeB,h],show takeC s c k=c by rw [takeC,if_neg h]]
    generalize pkV s c.i=p at hN hne
    go_enter Tryz.func126,Tryz.ntmps126
    go_wp2_with (go_at_call 98;refine hN.mono ?_;rintro e w1 ⟨rfl,n,rfl⟩)
    go_ret
    exact ⟨rfl,hR.drewN _,(On.refl b w).drewN _⟩
theorem take_yes (w:World) (b:Nat) (s:ByteArray) (c:C) (m vR:Value) (k:Nat) (hk:0 < k) (hR:RB w b s c m vR) (hs:s.size≤2000) (hi:c.i≤s.size) (h:G.pk s c.i=(k:Int)) :
    Calls Tryz.prog 126 #[.pointer (some ⟨b,0,none⟩),.int .u8 (k:Int)] w fun r w'=>r=.returned (.bool true)∧RB w' b s { c with i:=G.skip s (c.i + 1) } m vR∧On b w w':=by
  have:=take_any w b s c m vR k hk hR hs hi
  rw [show takeB s c.i k=true by simp [takeB,h],show takeC s c k={ c with i:=G.skip s (c.i + 1) } by rw [takeC,if_pos h]] at this
  exact this
theorem take_not (w:World) (b:Nat) (s:ByteArray) (c:C) (m vR:Value) (k:Nat) (hk:0 < k) (hR:RB w b s c m vR) (hs:s.size≤2000) (hi:c.i≤s.size) (h:¬ G.pk s c.i=(k:Int)) :
    Calls Tryz.prog 126 #[.pointer (some ⟨b,0,none⟩),.int .u8 (k:Int)] w fun r w'=>r=.returned (.bool false)∧RB w' b s c m vR∧On b w w':=by
  have:=take_any w b s c m vR k hk hR hs hi
  rw [show takeB s c.i k=false by simp [takeB,h],show takeC s c k=c by rw [takeC,if_neg h]] at this
  exact this
set_option maxRecDepth 100000 in
set_option maxHeartbeats 400000 in
theorem expect_yes (w:World) (b:Nat) (s:ByteArray) (c:C) (m vR:Value) (k:Nat) (hk:0 < k) (hR:RB w b s c m vR) (hs:s.size≤2000) (hi:c.i≤s.size) (h:G.pk s c.i=(k:Int)) :
    Calls Tryz.prog 103 #[.pointer (some ⟨b,0,none⟩),.int .u8 (k:Int)] w fun r w'=>r=.returned (.bool true)∧RB w' b s { c with i:=G.skip s (c.i + 1) } m vR∧On b w w':=by
  have hN:=take_yes w b s c m vR k hk hR hs hi h
  go_enter Tryz.func103,Tryz.ntmps103
  go_wp2_with (go_at_call 126;refine hN.mono ?_;rintro e w1 ⟨rfl,hR1,hE1⟩)
  go_ret
  exact ⟨rfl,hR1,hE1⟩
set_option maxRecDepth 100000 in
set_option maxHeartbeats 400000 in
theorem expect_not (w:World) (b:Nat) (s:ByteArray) (c:C) (m vR:Value) (k:Nat) (hk:0 < k) (hR:RB w b s c m vR) (hs:s.size≤2000) (hi:c.i≤s.size) (h:¬ G.pk s c.i=(k:Int)) :
    Calls Tryz.prog 103 #[.pointer (some ⟨b,0,none⟩),.int .u8 (k:Int)] w fun r w'=>r=.returned (.bool false)∧RB w' b s { c with p:=c.i,e:=2 } m vR∧On b w w':=by
  have hN:=take_not w b s c m vR k hk hR hs hi h
  go_enter Tryz.func103,Tryz.ntmps103
  go_wp2_with (first
    | (go_at_call 126;refine hN.mono ?_;rintro e w1 ⟨rfl,hR1,hE1⟩;obtain ⟨c0,c1,c2,c3,c4,c5,c6,fr⟩:=hR1.reads)
    | (go_at_call 127;refine (fail_any w1 b s c m vR c.i 2 hR1).mono ?_;rintro e w2 ⟨rfl,hR2,hE2⟩))
  go_ret
  exact ⟨rfl,hR2,hE1.trans hE2⟩
end Pr
end Go.Proofs.YtpgcidpghmoibaaGreatDoor

namespace Go.Proofs.YtpgcidpghmoibaaGreatDoor
namespace Pr
open Go.RowKit
def hexp:Nat→List UInt8→Option Nat
  | acc,[]=>some acc
  | acc,c :: l=>if G.dig c.toNat < 16 then hexp (acc * 16 + G.dig c.toNat) l else none
def puV (o:Option Nat):Value:=match o with
  | some v=>.tuple #[.int .u64 (v:Int),.nilIface]
  | none=>.tuple #[.int .u64 0,.iface 268 (.int .i64 2)]
set_option maxRecDepth 100000 in
set_option maxHeartbeats 400000 in
theorem lower_any (c:Int) (w:World):Calls Tryz.prog 201 #[.int .u8 c] w fun e w'=>e=.returned (.int .u8 (bits .or .u8 c 32))∧w'=w:=by
  go_enter Tryz.func201,Tryz.ntmps201
  go_wp2
  go_ret
  exact ⟨rfl,rfl⟩
set_option maxRecDepth 100000 in
theorem low_cases:∀ x:Fin 256,¬ (48≤x.val∧x.val≤57) →
    (97≤bits .or .u8 ((x.val:Nat):Int) 32∧bits .or .u8 ((x.val:Nat):Int) 32≤102∧bits .or .u8 ((x.val:Nat):Int) 32 - 97 + 10=(G.dig x.val:Int)∧G.dig x.val < 16) ∨
    (103≤bits .or .u8 ((x.val:Nat):Int) 32∧bits .or .u8 ((x.val:Nat):Int) 32≤122∧¬ G.dig x.val < 16) ∨
    ((bits .or .u8 ((x.val:Nat):Int) 32 < 97 ∨ 122 < bits .or .u8 ((x.val:Nat):Int) 32)∧¬ G.dig x.val < 16):=by decide
set_option maxHeartbeats 32000000 in
set_option maxRecDepth 100000 in
theorem pu_any (t:ByteArray) (ht:t.size=4) (w:World) :
    Calls Tryz.prog 199 #[.string t,.int .i64 16,.int .i64 16] w fun e w'=>e=.returned (puV (hexp 0 t.data.toList))∧Below w.heap.size w w':=by
  have hemp:t.toList.isEmpty=false:=by
    rw [← decide_eq_emptyBytes]
    exact decide_eq_false (fun h=>by rw [h] at ht;cases ht)
  have hcv:=Lib.run_convert_string_bytes (P:=Tryz.prog) w 9 70 5 t (u:=.string) Tryz.underlying9 Tryz.underlying70 Tryz.underlying5
  have hB:∀ j,j < t.size→(Lib.bytesWorld w 5 t).cell? ⟨w.heap.size,j,none⟩=some (.int .u8 (t.data.toList.getD j 0).toNat):=fun j hj=>Lib.bytesWorld_cell w 5 t j hj
  have hbel:Below w.heap.size w (Lib.bytesWorld w 5 t):=
    ⟨rfl,rfl,rfl,by rw [Lib.bytesWorld_size];omega,fun j hj=>Lib.bytesWorld_at_old w 5 t j hj⟩
  obtain ⟨W1,hW1⟩:∃ W1,W1=Lib.bytesWorld w 5 t:=⟨_,rfl⟩
  rw [← hW1] at hcv hB hbel
  have HBEL:Hid _:=hbel
  clear hW1 hbel
  obtain ⟨bs,hL⟩:∃ bs,bs=t.data.toList:=⟨_,rfl⟩
  have hLn:bs.length=t.size:=by rw [hL,Lib.size_eq]
  rw [← hL] at hB ⊢
  clear hL
  go_enter Tryz.func199,Tryz.ntmps199
  go_wp2
  go_loop [12,13,101] (fun vu vn vi=>∃ (k acc:Nat) (a:Int),vu=.bool false∧vn=.int .u64 a∧vi=.int .i64 k∧k≤t.size∧Hid (a=(acc:Int)∧acc < 16 ^ k∧hexp 0 bs=hexp acc (bs.drop k)))
    (fun _ _ vi=>t.size - (intOf vi).toNat)
  case atStart=>exact ⟨0,0,0,rfl,rfl,rfl,by omega,rfl,by omega,rfl⟩
  case round =>
    obtain ⟨k,acc,a,rfl,rfl,rfl,hk,hh⟩:=hrel
    obtain ⟨ha,hacc,hdec⟩:=hh.out
    clear hh
    have a0:0≤a:=by omega
    by_cases hkn:k < t.size
    · have hc:=hB k hkn
      have hp:(16:Nat) ^ k≤16 ^ 3:=Nat.pow_le_pow_right (by omega) (by omega)
      have hp2:(16:Nat) ^ (k + 1)=16 ^ k * 16:=Nat.pow_succ ..
      have hdrop:bs.drop k=bs[k]'(by omega) :: bs.drop (k + 1):=List.drop_eq_getElem_cons (by omega)
      have hget:bs.getD k 0=bs[k]'(by omega):=by simp [List.getD,List.getElem?_eq_getElem (show k < bs.length by omega)]
      rw [hdrop] at hdec
      rw [hget] at hc
      generalize bs[k]'(by omega)=c at hc hdec
      have hc256:c.toNat < 256:=c.toNat_lt
      clear hB hdrop hget
      have a1:a < 4096:=by have:(16:Nat) ^ 3=4096:=by decide
                           omega
      by_cases hdig:48≤c.toNat∧c.toNat≤57
      · obtain ⟨hd0,hd1⟩:=hdig
        have hdg:G.dig c.toNat=c.toNat - 48:=by simp [G.dig,hd0,hd1]
        have hF:hexp acc (c :: bs.drop (k + 1))=hexp (acc * 16 + (c.toNat - 48)) (bs.drop (k + 1)):=by rw [hexp,if_pos (by omega),hdg]
        have HN:Hid (a * 16 + ((c.toNat:Int) - 48)=((acc * 16 + (c.toNat - 48):Nat):Int)∧acc * 16 + (c.toNat - 48) < 16 ^ (k + 1)∧hexp 0 bs=hexp (acc * 16 + (c.toNat - 48)) (bs.drop (k + 1))):=Lib.hid ⟨by omega,by omega,hdec.trans hF⟩
        clear hF hdec ha hacc hp hp2 hdg
        go_wp2
        refine ⟨⟨k + 1,acc * 16 + (c.toNat - 48),a * 16 + ((c.toNat:Int) - 48),rfl,(by first | rfl | (congr 1;omega)),(by first | rfl | (congr 1;omega)),by omega,HN⟩,by simp [intOf];omega⟩
      · have hlc:=low_cases ⟨c.toNat,hc256⟩ hdig
        simp only at hlc
        have hv0:=bits_lo_u8 .or (c.toNat:Int) 32
        have hv1:=bits_hi_u8 .or (c.toNat:Int) 32
        have hu0:=bits_lo_u8 .or 95 32
        have hu1:=bits_hi_u8 .or 95 32
        have hlow:=lower_any (c.toNat:Int)
        have hlo95:=lower_any 95
        have h95:bits .or .u8 95 32=127:=by decide
        rw [h95] at hlo95
        have hx95:c.toNat=95→bits .or .u8 (c.toNat:Int) 32=127:=fun e=>by rw [e];exact h95
        generalize bits .or .u8 (c.toNat:Int) 32=lo at hlc hv0 hv1 hlow hx95
        clear hu0 hu1 h95
        rcases hlc with ⟨l1,l2,l3,l4⟩ | ⟨l1,l2,l3⟩ | ⟨l1,l2⟩
        · have hF:hexp acc (c :: bs.drop (k + 1))=hexp (acc * 16 + G.dig c.toNat) (bs.drop (k + 1)):=by rw [hexp,if_pos l4]
          have HN:Hid (a * 16 + (lo - 97 + 10)=((acc * 16 + G.dig c.toNat:Nat):Int)∧acc * 16 + G.dig c.toNat < 16 ^ (k + 1)∧hexp 0 bs=hexp (acc * 16 + G.dig c.toNat) (bs.drop (k + 1))):=Lib.hid ⟨by omega,by omega,hdec.trans hF⟩
          have hn95:¬ (c.toNat:Int)=95:=by omega
          have hd':¬ (16:Int)≤lo - 97 + 10:=by omega
          clear hF hdec ha hacc hp hp2 l3 l4 hx95 hlo95
          go_wp2_with (go_at_call 201;refine (hlow _).mono ?_;rintro e w' ⟨rfl,rfl⟩)
          all_goals refine ⟨⟨k + 1,acc * 16 + G.dig c.toNat,a * 16 + (lo - 97 + 10),rfl,(by first | rfl | (congr 1;omega)),(by first | rfl | (congr 1;omega)),by omega,HN⟩,by simp [intOf];omega⟩
        · have hF:hexp acc (c :: bs.drop (k + 1))=none:=by rw [hexp,if_neg l3]
          rw [hF] at hdec
          have hn95:¬ (c.toNat:Int)=95:=by omega
          have hd':(16:Int)≤lo - 97 + 10:=by omega
          clear hF ha hacc hp hp2 l3 hx95 hlo95
          go_wp2_with (go_at_call 201;refine (hlow _).mono ?_;rintro e w' ⟨rfl,rfl⟩)
          all_goals go_ret2
          all_goals first | exact ⟨rfl,HBEL.out⟩ | exact ⟨by rw [hdec];rfl,HBEL.out⟩
        · have hF:hexp acc (c :: bs.drop (k + 1))=none:=by rw [hexp,if_neg l2]
          rw [hF] at hdec
          have hdg:¬ (48≤(c.toNat:Int)∧(c.toNat:Int)≤57):=by omega
          clear hF ha hacc hp hp2 l2 hx95
          by_cases h95:(c.toNat:Int)=95
          · rw [h95] at hc
            clear hdg hdig hc256 hlow h95
            go_wp2_with (go_at_call 201;refine (hlo95 _).mono ?_;rintro e w' ⟨rfl,rfl⟩)
            go_ret2
            first | exact ⟨rfl,HBEL.out⟩ | exact ⟨by rw [hdec];rfl,HBEL.out⟩
          · clear hlo95
            rcases l1 with l1 | l1
            all_goals
              go_wp2_with (go_at_call 201;refine (hlow _).mono ?_;rintro e w' ⟨rfl,rfl⟩)
            all_goals go_ret2
            all_goals first | exact ⟨rfl,HBEL.out⟩ | exact ⟨by rw [hdec];rfl,HBEL.out⟩
    · have hkk:k=t.size:=by omega
      subst hkk
      have hF:hexp acc (bs.drop t.size)=some acc:=by rw [List.drop_eq_nil_of_le (by omega)];rfl
      rw [hF] at hdec
      subst ha
      clear hacc hF a0
      go_wp2
      go_ret2
      first | exact ⟨rfl,HBEL.out⟩ | exact ⟨by rw [hdec];rfl,HBEL.out⟩
end Pr
end Go.Proofs.YtpgcidpghmoibaaGreatDoor

namespace Go.Proofs.YtpgcidpghmoibaaGreatDoor
namespace Pr
open Go.RowKit
open Rf (Kept)
structure Tabs (w:World):Prop where
  utf:Lib.Utf8Tabs 1 2 w
  syn:∃ te pe,w.cell? ⟨3,0,none⟩=some (.iface te pe)
theorem cell_lt {w:World} {a:Addr} {v:Value} (hc:w.cell? a=some v):a.block < w.heap.size:=by
  rcases Nat.lt_or_ge a.block w.heap.size with h' | h'
  · exact h'
  · simp [World.cell?,Array.getElem?_eq_none h'] at hc
theorem cell_same {w w':World} {a:Addr} (h:w'.heap[a.block]?=w.heap[a.block]?):w'.cell? a=w.cell? a:=by simp [World.cell?,h]
theorem Tabs.kept {w w':World} {p:Nat→Prop} (h:Tabs w) (hk:Kept p w w') (h1:p 1) (h2:p 2) (h3:p 3):Tabs w':=by
  have key:∀ {a:Addr} {v:Value},p a.block→w.cell? a=some v→w'.cell? a=some v:=fun {a v} hp hc=>(cell_same (hk.block _ (cell_lt hc) hp)).trans hc
  obtain ⟨te,pe,hs⟩:=h.syn
  exact ⟨⟨fun c hc=>key h1 (h.utf.1 c hc),fun i hi=>⟨key h2 (h.utf.2 i hi).1,key h2 (h.utf.2 i hi).2⟩⟩,te,pe,key h3 hs⟩
theorem Tabs.below {w w':World} (h:Tabs w) (hb:Below w.heap.size w w'):Tabs w':=h.kept (p:=fun _=>True) (Kept.of_below hb) trivial trivial trivial
theorem Tabs.lt {w:World} (h:Tabs w):1 < w.heap.size∧2 < w.heap.size∧3 < w.heap.size:=by
  obtain ⟨te,pe,hs⟩:=h.syn
  exact ⟨cell_lt (h.utf.1 0 (by omega)),cell_lt (h.utf.2 0 (by omega)).1,cell_lt hs⟩
set_option maxRecDepth 100000 in
set_option maxHeartbeats 1000000 in
theorem pub_any (t:ByteArray) (ht:t.size=4) (w:World) (hT:Tabs w) :
    Calls Tryz.prog 197 #[.string t,.int .i64 16,.int .i64 16] w fun e w'=>(match hexp 0 t.data.toList with | some v=>e=.returned (.tuple #[.int .u64 (v:Int),.nilIface]) | none=>∃ N,e=.returned (.tuple #[.int .u64 0,.iface 270 (.pointer (some ⟨N,0,none⟩))]))∧Below w.heap.size w w':=by
  have hN:=pu_any t ht w
  cases hx:hexp 0 t.data.toList with
  | some v =>
    rw [hx] at hN
    clear hx
    go_enter Tryz.func197,Tryz.ntmps197
    go_wp2_with (go_at_call 199;refine hN.mono ?_;rintro e w1 ⟨rfl,hb⟩;unfold puV)
    go_ret2
    exact ⟨rfl,hb⟩
  | none =>
    rw [hx] at hN
    clear hx
    go_enter Tryz.func197,Tryz.ntmps197
    go_wp2_with (first
      | (go_at_call 199;refine hN.mono ?_;rintro e w1 ⟨rfl,hb⟩;unfold puV;obtain ⟨te,pe,hs⟩:=(hT.below hb).syn;have hN2:=Tryz.strconv_toError_syntax { data:=#[80,97,114,115,101,85,105,110,116] } t 16 16 _ w1 (by omega) hs (.inr ⟨te,pe,rfl⟩))
      | (go_at_call 200;refine hN2.mono ?_;rintro e w2 ⟨N,rfl,hN3,hN4,hb2⟩))
    go_ret2
    exact ⟨⟨N,rfl⟩,hb.trans (hb2.mono hb.size)⟩
theorem tail4 (s:ByteArray) (j:Nat) (h:j + 4≤s.size):(s.extract j (j + 4)).data.toList=[s[j]'(by omega),s[j + 1]'(by omega),s[j + 2]'(by omega),s[j + 3]'(by omega)]:=by
  have hl:s.data.toList.length=s.size:=by simp [← ByteArray.size_data]
  have e:(s.extract j (j + 4)).data.toList=(s.data.toList.drop j).take 4:=by
    simp only [ByteArray.data_extract,Array.toList_extract,List.extract_eq_take_drop]
    rw [show j + 4 - j=4 by omega]
  rw [e,List.drop_eq_getElem_cons (by omega),List.drop_eq_getElem_cons (by omega),List.drop_eq_getElem_cons (by omega),List.drop_eq_getElem_cons (by omega)]
  rfl
theorem hexp_four (s:ByteArray) (j:Nat) (h:j + 4≤s.size):hexp 0 (s.extract j (j + 4)).data.toList=if G.hexs s j=true then some (G.hexv s j) else none:=by
  rw [tail4 s j h]
  simp only [hexp,U.at_get,G.hexs,G.hexv]
  have d0:=G.dig_le (U.at' s j)
  by_cases h0:G.dig (U.at' s j) < 16
  · by_cases h1:G.dig (U.at' s (j + 1)) < 16
    · by_cases h2:G.dig (U.at' s (j + 2)) < 16
      · by_cases h3:G.dig (U.at' s (j + 3)) < 16
        · simp only [h0,h1,h2,h3,if_true,decide_true,Bool.and_self,Option.some.injEq]
          omega
        · simp [h0,h1,h2,h3]
      · simp [h0,h1,h2]
    · simp [h0,h1]
  · simp [h0]
def numV (s:ByteArray) (i:Nat):Nat × Nat:=
  if i + 6≤s.size∧G.hexs s (i + 2)=true∧(G.hexv s (i + 2) < 55296 ∨ 57344≤G.hexv s (i + 2)) then (G.hexv s (i + 2),5) else (0,0)
theorem extract_size (s:ByteArray) (i:Nat) (_h:i≤s.size):(s.extract i s.size).size=s.size - i:=by simp [ByteArray.size_extract]
set_option maxRecDepth 100000 in
set_option maxHeartbeats 1000000 in
theorem numbered_any (s:ByteArray) (i:Nat) (w:World) (_hs:s.size≤2000) (hi:i + 1≤s.size) (hT:Tabs w) :
    Calls Tryz.prog 189 #[.string (s.extract (i + 1) s.size)] w fun e w'=>e=.returned (.tuple #[.int .i32 ((numV s i).1:Int),.int .i64 ((numV s i).2:Int)])∧Below w.heap.size w w':=by
  have hsz:=extract_size s (i + 1) hi
  have hx:(s.extract (i + 1) s.size).extract 1 5=s.extract (i + 2) (min (i + 6) s.size):=by
    rw [ByteArray.extract_extract]
  obtain ⟨rest,hrest⟩:∃ r,r=s.extract (i + 1) s.size:=⟨_,rfl⟩
  rw [← hrest] at hsz hx ⊢
  clear hrest
  by_cases h5:rest.size < 5
  · have E:Hid (numV s i=(0,0)):=by
      show numV s i=_
      rw [numV,if_neg (by omega)]
    have h5':(rest.size:Int) < 5:=by omega
    go_enter Tryz.func189,Tryz.ntmps189
    go_wp2
    go_ret2
    rw [E.out]
    exact ⟨rfl,Below.refl _ _⟩
  · have h5':¬ (rest.size:Int) < 5:=by omega
    have h5'':(5:Int)≤(rest.size:Int):=by omega
    rw [show min (i + 6) s.size=i + 2 + 4 by omega] at hx
    have hN:=pub_any (s.extract (i + 2) (i + 2 + 4)) (by rw [ByteArray.size_extract];omega) w hT
    rw [hexp_four s (i + 2) (by omega)] at hN
    by_cases hh:G.hexs s (i + 2)=true
    · rw [if_pos hh] at hN
      change Calls _ _ _ _ (fun e w'=>e=.returned (.tuple #[.int .u64 (G.hexv s (i + 2):Int),.nilIface])∧_) at hN
      have hle:=G.hexv_le s (i + 2) hh
      have hval:Lib.validRune (G.hexv s (i + 2):Int)=decide (G.hexv s (i + 2) < 55296 ∨ 57344≤G.hexv s (i + 2)):=by
        unfold Lib.validRune
        rw [Bool.eq_iff_iff]
        simp
        omega
      have hw:IntKind.i32.wrap (G.hexv s (i + 2):Int)=(G.hexv s (i + 2):Int):=by
        simp [IntKind.wrap,IntKind.bits,IntKind.signed]
        omega
      by_cases hv:G.hexv s (i + 2) < 55296 ∨ 57344≤G.hexv s (i + 2)
      · have E:Hid (numV s i=(G.hexv s (i + 2),5)):=by
          show numV s i=_
          rw [numV,if_pos ⟨by omega,hh,hv⟩]
        rw [decide_eq_true hv] at hval
        clear hv hh
        have n1:(G.hexv s (i + 2):Int)≤65535:=by omega
        have n0:0≤(G.hexv s (i + 2):Int):=by omega
        clear hle
        obtain ⟨n,hn⟩:∃ n:Int,n=(G.hexv s (i + 2):Int):=⟨_,rfl⟩
        rw [← hn] at hN hval hw n1 n0
        have HN:Hid (n=(G.hexv s (i + 2):Int)):=hn
        clear hn
        go_enter Tryz.func189,Tryz.ntmps189
        go_wp2_with (first
          | (go_at_call 197;refine hN.mono ?_;rintro e w1 ⟨rfl,hb⟩)
          | (go_at_call 117;refine (Tryz.utf8_ValidRune _ _).mono ?_;rw [hval];rintro e w2 ⟨rfl,rfl⟩))
        go_ret2
        rw [E.out,← HN.out]
        exact ⟨rfl,hb⟩
      · have E:Hid (numV s i=(0,0)):=by
          show numV s i=_
          rw [numV,if_neg (fun h=>hv h.2.2)]
        rw [decide_eq_false hv] at hval
        clear hv hh
        have n1:(G.hexv s (i + 2):Int)≤65535:=by omega
        have n0:0≤(G.hexv s (i + 2):Int):=by omega
        clear hle
        obtain ⟨n,hn⟩:∃ n:Int,n=(G.hexv s (i + 2):Int):=⟨_,rfl⟩
        rw [← hn] at hN hval hw n1 n0
        have HN:Hid (n=(G.hexv s (i + 2):Int)):=hn
        clear hn
        go_enter Tryz.func189,Tryz.ntmps189
        go_wp2_with (first
          | (go_at_call 197;refine hN.mono ?_;rintro e w1 ⟨rfl,hb⟩)
          | (go_at_call 117;refine (Tryz.utf8_ValidRune _ _).mono ?_;rw [hval];rintro e w2 ⟨rfl,rfl⟩))
        go_ret2
        rw [E.out]
        exact ⟨rfl,hb⟩
    · rw [if_neg hh] at hN
      have E:Hid (numV s i=(0,0)):=by
        show numV s i=_
        rw [numV,if_neg (fun h=>hh h.2.1)]
      go_enter Tryz.func189,Tryz.ntmps189
      go_wp2_with (first
        | (go_at_call 197;refine hN.mono ?_;rintro e w1 ⟨⟨N,rfl⟩,hb⟩)
        | (go_at_call 117;refine (Tryz.utf8_ValidRune _ _).mono ?_;rintro e w2 ⟨rfl,rfl⟩))
      go_ret2
      rw [E.out]
      exact ⟨rfl,hb⟩
end Pr
end Go.Proofs.YtpgcidpghmoibaaGreatDoor
