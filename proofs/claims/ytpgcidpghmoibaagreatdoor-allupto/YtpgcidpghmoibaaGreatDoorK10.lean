/-
  THE REFERENCE's WALKS
  THE REFERENCE's READER
  THE REFERENCE's READER
-/
import Derived.Test.YtpgcidpghmoibaaGreatDoorK01
import Derived.Test.YtpgcidpghmoibaaGreatDoorRows
import Derived.WalkKit
import Derived.WalkSpells
import Derived.WalkLawsBesides
import Derived.Handy
import Derived.Test.YtpgcidpghmoibaaGreatDoorK09
namespace Go.Proofs.YtpgcidpghmoibaaGreatDoor
open Go.RowKit
theorem ret_bool {a b:Bool} (h:a=b):Ending.returned (.bool a)=.returned (.bool b):=by rw [h]
set_option maxRecDepth 100000 in
set_option maxHeartbeats 400000 in
theorem tail_any (s:ByteArray) (i:Nat) (w:World) (_hs:s.size≤9223372036854775807) (_hi:i≤9223372036854775807) :
    Calls Tryz.prog 138 #[.string s,.int .i64 i] w fun e w'=>e=.returned (.bool (U.tl s i))∧w'=w:=by
  by_cases hlt:i < s.size
  · have hb:=U.at_lt s i
    have hg:=U.at_get s i hlt
    have H:Hid ((s[i]'hlt).toNat=U.at' s i):=hg
    clear hg
    go_enter Tryz.func138,Tryz.ntmps138
    go_wp2
    · have h1:(128:Int)≤((s[i]'hlt).toNat:Int):=by assumption
      rw [H.out] at h1
      go_ret
      refine ⟨ret_bool ?_,rfl⟩
      rw [H.out]
      simp only [U.tl,hlt,decide_true,Bool.true_and]
      rw [decide_eq_true (by omega:128≤U.at' s i),Bool.true_and]
      exact decide_eq_decide.2 (by omega)
    · have h1:((s[i]'hlt).toNat:Int) < 128:=by assumption
      rw [H.out] at h1
      go_ret
      refine ⟨ret_bool ?_,rfl⟩
      simp only [U.tl,hlt,decide_true,Bool.true_and]
      rw [decide_eq_false (by omega:¬ 128≤U.at' s i),Bool.false_and]
  · go_enter Tryz.func138,Tryz.ntmps138
    go_wp2
    go_ret
    refine ⟨ret_bool ?_,rfl⟩
    simp [U.tl,hlt]
def wellAt (s:ByteArray) (i:Nat):Bool:=
  if U.at' s i < 128 then true
  else if U.at' s i < 192 ∨ 248≤U.at' s i then false
  else decide ((Utf8.decode s i).2 ≠ 1)
set_option maxRecDepth 100000 in
set_option maxHeartbeats 400000 in
theorem next_one (s:ByteArray) (i:Nat) (w:World) (_hs:s.size≤1000000) (hlt:i < s.size) (hc:U.at' s i < 128) :
    Calls Tryz.prog 118 #[.string s,.int .i64 i] w fun e w'=>e=.returned (.tuple #[.int .i64 (Utf8.decode s i).1,.int .i64 (Utf8.decode s i).2,.bool (wellAt s i)])∧w'=w:=by
  have hg:=U.at_get s i hlt
  have hd:=U.dec1 s i hc
  have hw:wellAt s i=true:=by simp [wellAt,hc]
  rw [hd,hw,← hg]
  have hc':((s[i]'hlt).toNat:Int) < 128:=by omega
  clear hd hw hg hc
  go_enter Tryz.func118,Tryz.ntmps118
  go_wp2
  go_ret3
  exact ⟨rfl,rfl⟩
set_option maxRecDepth 100000 in
set_option maxHeartbeats 400000 in
theorem next_bad (s:ByteArray) (i:Nat) (w:World) (_hs:s.size≤1000000) (hlt:i < s.size) (h1:128≤U.at' s i) (h2:U.at' s i < 192 ∨ 248≤U.at' s i) :
    Calls Tryz.prog 118 #[.string s,.int .i64 i] w fun e w'=>e=.returned (.tuple #[.int .i64 (Utf8.decode s i).1,.int .i64 (Utf8.decode s i).2,.bool (wellAt s i)])∧w'=w:=by
  have hg:=U.at_get s i hlt
  have hd:=U.decBad s i h1 h2
  have hw:wellAt s i=false:=by simp [wellAt,Nat.not_lt.2 h1,h2]
  have h3:=U.at_lt s i
  rw [hd,hw]
  rcases h2 with h2 | h2
  · have c1:(128:Int)≤((s[i]'hlt).toNat:Int):=by omega
    have c2:((s[i]'hlt).toNat:Int) < 192:=by omega
    clear hd hw hg h1 h2 h3
    go_enter Tryz.func118,Tryz.ntmps118
    go_wp2
    go_ret3
    exact ⟨rfl,rfl⟩
  · have c1:(248:Int)≤((s[i]'hlt).toNat:Int):=by omega
    have c2:((s[i]'hlt).toNat:Int) < 256:=by omega
    clear hd hw hg h1 h2 h3
    go_enter Tryz.func118,Tryz.ntmps118
    go_wp2
    go_ret3
    exact ⟨rfl,rfl⟩
theorem tail_at (s:ByteArray) (k:Nat) (j:Int) (w:World) (hj:j=(k:Int)) (hs:s.size≤1000000) (hi:k≤1000010) :
    Calls Tryz.prog 138 #[.string s,.int .i64 j] w fun e w'=>e=.returned (.bool (U.tl s k))∧w'=w:=by
  subst hj
  exact tail_any s k w (by omega) (by omega)
theorem well_of {s:ByteArray} {i:Nat} (h1:192≤U.at' s i) (h2:U.at' s i < 248):wellAt s i=decide ((Utf8.decode s i).2 ≠ 1):=by
  unfold wellAt
  rw [if_neg (by omega),if_neg (by omega)]
theorem Hid.intro {p:Prop} (h:p):Hid p:=h
theorem none3 {s:ByteArray} {i:Nat} (h1:192≤U.at' s i) (h2:U.at' s i < 248) (hd:Utf8.decode s i=(65533,1)) :
    Ending.returned (.tuple #[.int .i64 65533,.int .i64 1,.bool false])=.returned (.tuple #[.int .i64 (Utf8.decode s i).1,.int .i64 (Utf8.decode s i).2,.bool (wellAt s i)]):=by
  rw [well_of h1 h2,hd];rfl
theorem some3 {s:ByteArray} {i:Nat} {v n:Nat} {x y:Int} (h1:192≤U.at' s i) (h2:U.at' s i < 248) (hd:Utf8.decode s i=(v,n)) (hn:n ≠ 1) (hx:x=v) (hy:y=n) :
    Ending.returned (.tuple #[.int .i64 x,.int .i64 y,.bool true])=.returned (.tuple #[.int .i64 (Utf8.decode s i).1,.int .i64 (Utf8.decode s i).2,.bool (wellAt s i)]):=by
  rw [well_of h1 h2,hd,hx,hy];simp [hn]
set_option maxRecDepth 100000 in
set_option maxHeartbeats 1000000 in
theorem next_2_no1 (s:ByteArray) (i:Nat) (w:World) (hs:s.size≤1000000) (hlt:i < s.size) (h1:192≤U.at' s i) (h2:U.at' s i < 224) (t1:U.tl s (i + 1)=false) :
    Calls Tryz.prog 118 #[.string s,.int .i64 i] w fun e w'=>e=.returned (.tuple #[.int .i64 (Utf8.decode s i).1,.int .i64 (Utf8.decode s i).2,.bool (wellAt s i)])∧w'=w:=by
  have hg:=U.at_get s i hlt
  have hd:Utf8.decode s i=(65533,1):=by rw [U.dec2 s i h1 h2];simp [t1]
  have E:=Hid.intro (none3 (by omega) (by omega) hd)
  have c1:(192:Int)≤((s[i]'hlt).toNat:Int):=by omega
  have c2:((s[i]'hlt).toNat:Int) < 224:=by omega
  clear hd hg h1 h2
  go_enter Tryz.func118,Tryz.ntmps118
  go_wp2
  refine wp_loop_rounds 1 ?_
  rw [rounds_succ]
  go_wp2_with (go_at_call 138;refine (tail_at s (i + 1) _ _ (by omega) hs (by omega)).mono ?_;rintro e w' ⟨rfl,rfl⟩)
  go_ret3
  exact ⟨E.out,rfl⟩
set_option maxRecDepth 100000 in
set_option maxHeartbeats 1000000 in
theorem next_2_yes (s:ByteArray) (i:Nat) (w:World) (hs:s.size≤1000000) (hlt:i < s.size) (h1:192≤U.at' s i) (h2:U.at' s i < 224) (t1:U.tl s (i + 1)=true) :
    Calls Tryz.prog 118 #[.string s,.int .i64 i] w fun e w'=>e=.returned (.tuple #[.int .i64 (Utf8.decode s i).1,.int .i64 (Utf8.decode s i).2,.bool (wellAt s i)])∧w'=w:=by
  have hg:=U.at_get s i hlt
  have hd:=U.dec2 s i h1 h2
  have c1:(192:Int)≤((s[i]'hlt).toNat:Int):=by omega
  have c2:((s[i]'hlt).toNat:Int) < 224:=by omega
  have q1:=(U.tl_iff s (i + 1)).1 t1
  have g1:=U.at_get s (i + 1) q1.1
  have l1:=q1.1
  have c1a:(128:Int)≤((s[i + 1]'l1).toNat:Int):=by omega
  have c1b:((s[i + 1]'l1).toNat:Int) < 192:=by omega
  have hv:((64 * (U.at' s i - 192) + U.at' s (i + 1) - 128:Nat):Int)=64 * (((s[i]'hlt).toNat:Int) - 192) + ((s[i + 1]'l1).toNat:Int) - 128:=by omega
  generalize hV:64 * (U.at' s i - 192) + U.at' s (i + 1) - 128=V at *
  by_cases hok:128≤V
  · have hd':Utf8.decode s i=(V,2):=by rw [hd,if_pos ⟨t1,hok⟩]
    have E:=Hid.intro (some3 (x:=64 * (((s[i]'hlt).toNat:Int) - 192) + ((s[i + 1]'l1).toNat:Int) - 128) (y:=2) (by omega) (by omega) hd' (by decide) hv.symm (by rfl))
    have d1:(128:Int)≤64 * (((s[i]'hlt).toNat:Int) - 192) + ((s[i + 1]'l1).toNat:Int) - 128:=by omega
    have d3:64 * (((s[i]'hlt).toNat:Int) - 192) + ((s[i + 1]'l1).toNat:Int) - 128≤1114111:=by omega
    have d2:64 * (((s[i]'hlt).toNat:Int) - 192) + ((s[i + 1]'l1).toNat:Int) - 128 < 55296:=by omega
    clear hok hV hv
    clear hd hd' hg h1 h2 g1 q1
    go_enter Tryz.func118,Tryz.ntmps118
    go_wp2
    refine wp_loop_rounds 2 ?_
    rw [rounds_succ]
    go_wp2_with (go_at_call 138;refine (tail_at s (i + 1) _ _ (by omega) hs (by omega)).mono ?_;rintro e w' ⟨rfl,rfl⟩)
    rw [rounds_succ]
    go_wp2
    go_ret3
    exact ⟨E.out,rfl⟩
  · have hd':Utf8.decode s i=(65533,1):=by rw [hd,if_neg (fun h=>hok h.2)]
    have E:=Hid.intro (none3 (by omega) (by omega) hd')
    have d1:64 * (((s[i]'hlt).toNat:Int) - 192) + ((s[i + 1]'l1).toNat:Int) - 128 < 128:=by omega
    clear hok hV hv
    clear hd hd' hg h1 h2 g1 q1
    go_enter Tryz.func118,Tryz.ntmps118
    go_wp2
    refine wp_loop_rounds 2 ?_
    rw [rounds_succ]
    go_wp2_with (go_at_call 138;refine (tail_at s (i + 1) _ _ (by omega) hs (by omega)).mono ?_;rintro e w' ⟨rfl,rfl⟩)
    rw [rounds_succ]
    go_wp2
    go_ret3
    exact ⟨E.out,rfl⟩
set_option maxRecDepth 100000 in
set_option maxHeartbeats 1000000 in
theorem next_3_no1 (s:ByteArray) (i:Nat) (w:World) (hs:s.size≤1000000) (hlt:i < s.size) (h1:224≤U.at' s i) (h2:U.at' s i < 240) (t1:U.tl s (i + 1)=false) :
    Calls Tryz.prog 118 #[.string s,.int .i64 i] w fun e w'=>e=.returned (.tuple #[.int .i64 (Utf8.decode s i).1,.int .i64 (Utf8.decode s i).2,.bool (wellAt s i)])∧w'=w:=by
  have hg:=U.at_get s i hlt
  have hd:Utf8.decode s i=(65533,1):=by rw [U.dec3 s i h1 h2];simp [t1]
  have E:=Hid.intro (none3 (by omega) (by omega) hd)
  have c1:(224:Int)≤((s[i]'hlt).toNat:Int):=by omega
  have c2:((s[i]'hlt).toNat:Int) < 240:=by omega
  clear hd hg h1 h2
  go_enter Tryz.func118,Tryz.ntmps118
  go_wp2
  refine wp_loop_rounds 1 ?_
  rw [rounds_succ]
  go_wp2_with (go_at_call 138;refine (tail_at s (i + 1) _ _ (by omega) hs (by omega)).mono ?_;rintro e w' ⟨rfl,rfl⟩)
  go_ret3
  exact ⟨E.out,rfl⟩
set_option maxRecDepth 100000 in
set_option maxHeartbeats 1000000 in
theorem next_3_no2 (s:ByteArray) (i:Nat) (w:World) (hs:s.size≤1000000) (hlt:i < s.size) (h1:224≤U.at' s i) (h2:U.at' s i < 240) (t1:U.tl s (i + 1)=true) (t2:U.tl s (i + 2)=false) :
    Calls Tryz.prog 118 #[.string s,.int .i64 i] w fun e w'=>e=.returned (.tuple #[.int .i64 (Utf8.decode s i).1,.int .i64 (Utf8.decode s i).2,.bool (wellAt s i)])∧w'=w:=by
  have hg:=U.at_get s i hlt
  have hd:Utf8.decode s i=(65533,1):=by rw [U.dec3 s i h1 h2];simp [t2]
  have E:=Hid.intro (none3 (by omega) (by omega) hd)
  have c1:(224:Int)≤((s[i]'hlt).toNat:Int):=by omega
  have c2:((s[i]'hlt).toNat:Int) < 240:=by omega
  have q1:=(U.tl_iff s (i + 1)).1 t1
  have g1:=U.at_get s (i + 1) q1.1
  have l1:=q1.1
  have c1a:(128:Int)≤((s[i + 1]'l1).toNat:Int):=by omega
  have c1b:((s[i + 1]'l1).toNat:Int) < 192:=by omega
  clear g1 q1
  clear hd hg h1 h2
  go_enter Tryz.func118,Tryz.ntmps118
  go_wp2
  refine wp_loop_rounds 2 ?_
  rw [rounds_succ]
  go_wp2_with (go_at_call 138;refine (tail_at s (i + 1) _ _ (by omega) hs (by omega)).mono ?_;rintro e w' ⟨rfl,rfl⟩)
  rw [rounds_succ]
  go_wp2_with (go_at_call 138;refine (tail_at s (i + 2) _ _ (by omega) hs (by omega)).mono ?_;rintro e w' ⟨rfl,rfl⟩)
  go_ret3
  exact ⟨E.out,rfl⟩
set_option maxRecDepth 100000 in
set_option maxHeartbeats 1000000 in
theorem next_3_yes (s:ByteArray) (i:Nat) (w:World) (hs:s.size≤1000000) (hlt:i < s.size) (h1:224≤U.at' s i) (h2:U.at' s i < 240) (t1:U.tl s (i + 1)=true) (t2:U.tl s (i + 2)=true) :
    Calls Tryz.prog 118 #[.string s,.int .i64 i] w fun e w'=>e=.returned (.tuple #[.int .i64 (Utf8.decode s i).1,.int .i64 (Utf8.decode s i).2,.bool (wellAt s i)])∧w'=w:=by
  have hg:=U.at_get s i hlt
  have hd:=U.dec3 s i h1 h2
  have c1:(224:Int)≤((s[i]'hlt).toNat:Int):=by omega
  have c2:((s[i]'hlt).toNat:Int) < 240:=by omega
  have q1:=(U.tl_iff s (i + 1)).1 t1
  have g1:=U.at_get s (i + 1) q1.1
  have l1:=q1.1
  have c1a:(128:Int)≤((s[i + 1]'l1).toNat:Int):=by omega
  have c1b:((s[i + 1]'l1).toNat:Int) < 192:=by omega
  have q2:=(U.tl_iff s (i + 2)).1 t2
  have g2:=U.at_get s (i + 2) q2.1
  have l2:=q2.1
  have c2a:(128:Int)≤((s[i + 2]'l2).toNat:Int):=by omega
  have c2b:((s[i + 2]'l2).toNat:Int) < 192:=by omega
  have hv:((64 * (64 * (U.at' s i - 224) + U.at' s (i + 1) - 128) + U.at' s (i + 2) - 128:Nat):Int)=64 * (64 * (((s[i]'hlt).toNat:Int) - 224) + ((s[i + 1]'l1).toNat:Int) - 128) + ((s[i + 2]'l2).toNat:Int) - 128:=by omega
  generalize hV:64 * (64 * (U.at' s i - 224) + U.at' s (i + 1) - 128) + U.at' s (i + 2) - 128=V at *
  by_cases hok:2048≤V∧(V < 55296 ∨ 57344≤V)
  · have hd':Utf8.decode s i=(V,3):=by rw [hd,if_pos ⟨⟨t1,t2⟩,hok⟩]
    have E:=Hid.intro (some3 (x:=64 * (64 * (((s[i]'hlt).toNat:Int) - 224) + ((s[i + 1]'l1).toNat:Int) - 128) + ((s[i + 2]'l2).toNat:Int) - 128) (y:=3) (by omega) (by omega) hd' (by decide) hv.symm (by rfl))
    rcases hok.2 with hlow | hlow
    all_goals
      have d1:(2048:Int)≤64 * (64 * (((s[i]'hlt).toNat:Int) - 224) + ((s[i + 1]'l1).toNat:Int) - 128) + ((s[i + 2]'l2).toNat:Int) - 128:=by omega
      have d3:64 * (64 * (((s[i]'hlt).toNat:Int) - 224) + ((s[i + 1]'l1).toNat:Int) - 128) + ((s[i + 2]'l2).toNat:Int) - 128≤1114111:=by omega
    · have d2:64 * (64 * (((s[i]'hlt).toNat:Int) - 224) + ((s[i + 1]'l1).toNat:Int) - 128) + ((s[i + 2]'l2).toNat:Int) - 128 < 55296:=by omega
      clear hok hlow hV hv
      clear hd hd' hg h1 h2 g1 q1 g2 q2
      go_enter Tryz.func118,Tryz.ntmps118
      go_wp2
      refine wp_loop_rounds 3 ?_
      rw [rounds_succ]
      go_wp2_with (go_at_call 138;refine (tail_at s (i + 1) _ _ (by omega) hs (by omega)).mono ?_;rintro e w' ⟨rfl,rfl⟩)
      rw [rounds_succ]
      go_wp2_with (go_at_call 138;refine (tail_at s (i + 2) _ _ (by omega) hs (by omega)).mono ?_;rintro e w' ⟨rfl,rfl⟩)
      rw [rounds_succ]
      go_wp2
      go_ret3
      exact ⟨E.out,rfl⟩
    · have d2:57344≤64 * (64 * (((s[i]'hlt).toNat:Int) - 224) + ((s[i + 1]'l1).toNat:Int) - 128) + ((s[i + 2]'l2).toNat:Int) - 128:=by omega
      clear hok hlow hV hv
      clear hd hd' hg h1 h2 g1 q1 g2 q2
      go_enter Tryz.func118,Tryz.ntmps118
      go_wp2
      refine wp_loop_rounds 3 ?_
      rw [rounds_succ]
      go_wp2_with (go_at_call 138;refine (tail_at s (i + 1) _ _ (by omega) hs (by omega)).mono ?_;rintro e w' ⟨rfl,rfl⟩)
      rw [rounds_succ]
      go_wp2_with (go_at_call 138;refine (tail_at s (i + 2) _ _ (by omega) hs (by omega)).mono ?_;rintro e w' ⟨rfl,rfl⟩)
      rw [rounds_succ]
      go_wp2
      go_ret3
      exact ⟨E.out,rfl⟩
  · have hd':Utf8.decode s i=(65533,1):=by rw [hd,if_neg (fun h=>hok h.2)]
    have E:=Hid.intro (none3 (by omega) (by omega) hd')
    by_cases hlow:V < 2048
    · have d1:64 * (64 * (((s[i]'hlt).toNat:Int) - 224) + ((s[i + 1]'l1).toNat:Int) - 128) + ((s[i + 2]'l2).toNat:Int) - 128 < 2048:=by omega
      clear hok hlow hV hv
      clear hd hd' hg h1 h2 g1 q1 g2 q2
      go_enter Tryz.func118,Tryz.ntmps118
      go_wp2
      refine wp_loop_rounds 3 ?_
      rw [rounds_succ]
      go_wp2_with (go_at_call 138;refine (tail_at s (i + 1) _ _ (by omega) hs (by omega)).mono ?_;rintro e w' ⟨rfl,rfl⟩)
      rw [rounds_succ]
      go_wp2_with (go_at_call 138;refine (tail_at s (i + 2) _ _ (by omega) hs (by omega)).mono ?_;rintro e w' ⟨rfl,rfl⟩)
      rw [rounds_succ]
      go_wp2
      go_ret3
      exact ⟨E.out,rfl⟩
    · have d1:(55296:Int)≤64 * (64 * (((s[i]'hlt).toNat:Int) - 224) + ((s[i + 1]'l1).toNat:Int) - 128) + ((s[i + 2]'l2).toNat:Int) - 128:=by omega
      have d2:64 * (64 * (((s[i]'hlt).toNat:Int) - 224) + ((s[i + 1]'l1).toNat:Int) - 128) + ((s[i + 2]'l2).toNat:Int) - 128 < 57344:=by omega
      clear hok hlow hV hv
      clear hd hd' hg h1 h2 g1 q1 g2 q2
      go_enter Tryz.func118,Tryz.ntmps118
      go_wp2
      refine wp_loop_rounds 3 ?_
      rw [rounds_succ]
      go_wp2_with (go_at_call 138;refine (tail_at s (i + 1) _ _ (by omega) hs (by omega)).mono ?_;rintro e w' ⟨rfl,rfl⟩)
      rw [rounds_succ]
      go_wp2_with (go_at_call 138;refine (tail_at s (i + 2) _ _ (by omega) hs (by omega)).mono ?_;rintro e w' ⟨rfl,rfl⟩)
      rw [rounds_succ]
      go_wp2
      go_ret3
      exact ⟨E.out,rfl⟩
set_option maxRecDepth 100000 in
set_option maxHeartbeats 1000000 in
theorem next_4_no1 (s:ByteArray) (i:Nat) (w:World) (hs:s.size≤1000000) (hlt:i < s.size) (h1:240≤U.at' s i) (h2:U.at' s i < 248) (t1:U.tl s (i + 1)=false) :
    Calls Tryz.prog 118 #[.string s,.int .i64 i] w fun e w'=>e=.returned (.tuple #[.int .i64 (Utf8.decode s i).1,.int .i64 (Utf8.decode s i).2,.bool (wellAt s i)])∧w'=w:=by
  have hg:=U.at_get s i hlt
  have hd:Utf8.decode s i=(65533,1):=by rw [U.dec4 s i h1 h2];simp [t1]
  have E:=Hid.intro (none3 (by omega) (by omega) hd)
  have c1:(240:Int)≤((s[i]'hlt).toNat:Int):=by omega
  have c2:((s[i]'hlt).toNat:Int) < 248:=by omega
  clear hd hg h1 h2
  go_enter Tryz.func118,Tryz.ntmps118
  go_wp2
  refine wp_loop_rounds 1 ?_
  rw [rounds_succ]
  go_wp2_with (go_at_call 138;refine (tail_at s (i + 1) _ _ (by omega) hs (by omega)).mono ?_;rintro e w' ⟨rfl,rfl⟩)
  go_ret3
  exact ⟨E.out,rfl⟩
set_option maxRecDepth 100000 in
set_option maxHeartbeats 1000000 in
theorem next_4_no2 (s:ByteArray) (i:Nat) (w:World) (hs:s.size≤1000000) (hlt:i < s.size) (h1:240≤U.at' s i) (h2:U.at' s i < 248) (t1:U.tl s (i + 1)=true) (t2:U.tl s (i + 2)=false) :
    Calls Tryz.prog 118 #[.string s,.int .i64 i] w fun e w'=>e=.returned (.tuple #[.int .i64 (Utf8.decode s i).1,.int .i64 (Utf8.decode s i).2,.bool (wellAt s i)])∧w'=w:=by
  have hg:=U.at_get s i hlt
  have hd:Utf8.decode s i=(65533,1):=by rw [U.dec4 s i h1 h2];simp [t2]
  have E:=Hid.intro (none3 (by omega) (by omega) hd)
  have c1:(240:Int)≤((s[i]'hlt).toNat:Int):=by omega
  have c2:((s[i]'hlt).toNat:Int) < 248:=by omega
  have q1:=(U.tl_iff s (i + 1)).1 t1
  have g1:=U.at_get s (i + 1) q1.1
  have l1:=q1.1
  have c1a:(128:Int)≤((s[i + 1]'l1).toNat:Int):=by omega
  have c1b:((s[i + 1]'l1).toNat:Int) < 192:=by omega
  clear g1 q1
  clear hd hg h1 h2
  go_enter Tryz.func118,Tryz.ntmps118
  go_wp2
  refine wp_loop_rounds 2 ?_
  rw [rounds_succ]
  go_wp2_with (go_at_call 138;refine (tail_at s (i + 1) _ _ (by omega) hs (by omega)).mono ?_;rintro e w' ⟨rfl,rfl⟩)
  rw [rounds_succ]
  go_wp2_with (go_at_call 138;refine (tail_at s (i + 2) _ _ (by omega) hs (by omega)).mono ?_;rintro e w' ⟨rfl,rfl⟩)
  go_ret3
  exact ⟨E.out,rfl⟩
set_option maxRecDepth 100000 in
set_option maxHeartbeats 1000000 in
theorem next_4_no3 (s:ByteArray) (i:Nat) (w:World) (hs:s.size≤1000000) (hlt:i < s.size) (h1:240≤U.at' s i) (h2:U.at' s i < 248) (t1:U.tl s (i + 1)=true) (t2:U.tl s (i + 2)=true) (t3:U.tl s (i + 3)=false) :
    Calls Tryz.prog 118 #[.string s,.int .i64 i] w fun e w'=>e=.returned (.tuple #[.int .i64 (Utf8.decode s i).1,.int .i64 (Utf8.decode s i).2,.bool (wellAt s i)])∧w'=w:=by
  have hg:=U.at_get s i hlt
  have hd:Utf8.decode s i=(65533,1):=by rw [U.dec4 s i h1 h2];simp [t3]
  have E:=Hid.intro (none3 (by omega) (by omega) hd)
  have c1:(240:Int)≤((s[i]'hlt).toNat:Int):=by omega
  have c2:((s[i]'hlt).toNat:Int) < 248:=by omega
  have q1:=(U.tl_iff s (i + 1)).1 t1
  have g1:=U.at_get s (i + 1) q1.1
  have l1:=q1.1
  have c1a:(128:Int)≤((s[i + 1]'l1).toNat:Int):=by omega
  have c1b:((s[i + 1]'l1).toNat:Int) < 192:=by omega
  clear g1 q1
  have q2:=(U.tl_iff s (i + 2)).1 t2
  have g2:=U.at_get s (i + 2) q2.1
  have l2:=q2.1
  have c2a:(128:Int)≤((s[i + 2]'l2).toNat:Int):=by omega
  have c2b:((s[i + 2]'l2).toNat:Int) < 192:=by omega
  clear g2 q2
  clear hd hg h1 h2
  go_enter Tryz.func118,Tryz.ntmps118
  go_wp2
  refine wp_loop_rounds 3 ?_
  rw [rounds_succ]
  go_wp2_with (go_at_call 138;refine (tail_at s (i + 1) _ _ (by omega) hs (by omega)).mono ?_;rintro e w' ⟨rfl,rfl⟩)
  rw [rounds_succ]
  go_wp2_with (go_at_call 138;refine (tail_at s (i + 2) _ _ (by omega) hs (by omega)).mono ?_;rintro e w' ⟨rfl,rfl⟩)
  rw [rounds_succ]
  go_wp2_with (go_at_call 138;refine (tail_at s (i + 3) _ _ (by omega) hs (by omega)).mono ?_;rintro e w' ⟨rfl,rfl⟩)
  go_ret3
  exact ⟨E.out,rfl⟩
set_option maxRecDepth 100000 in
set_option maxHeartbeats 1000000 in
theorem next_4_yes (s:ByteArray) (i:Nat) (w:World) (hs:s.size≤1000000) (hlt:i < s.size) (h1:240≤U.at' s i) (h2:U.at' s i < 248) (t1:U.tl s (i + 1)=true) (t2:U.tl s (i + 2)=true) (t3:U.tl s (i + 3)=true) :
    Calls Tryz.prog 118 #[.string s,.int .i64 i] w fun e w'=>e=.returned (.tuple #[.int .i64 (Utf8.decode s i).1,.int .i64 (Utf8.decode s i).2,.bool (wellAt s i)])∧w'=w:=by
  have hg:=U.at_get s i hlt
  have hd:=U.dec4 s i h1 h2
  have c1:(240:Int)≤((s[i]'hlt).toNat:Int):=by omega
  have c2:((s[i]'hlt).toNat:Int) < 248:=by omega
  have q1:=(U.tl_iff s (i + 1)).1 t1
  have g1:=U.at_get s (i + 1) q1.1
  have l1:=q1.1
  have c1a:(128:Int)≤((s[i + 1]'l1).toNat:Int):=by omega
  have c1b:((s[i + 1]'l1).toNat:Int) < 192:=by omega
  have q2:=(U.tl_iff s (i + 2)).1 t2
  have g2:=U.at_get s (i + 2) q2.1
  have l2:=q2.1
  have c2a:(128:Int)≤((s[i + 2]'l2).toNat:Int):=by omega
  have c2b:((s[i + 2]'l2).toNat:Int) < 192:=by omega
  have q3:=(U.tl_iff s (i + 3)).1 t3
  have g3:=U.at_get s (i + 3) q3.1
  have l3:=q3.1
  have c3a:(128:Int)≤((s[i + 3]'l3).toNat:Int):=by omega
  have c3b:((s[i + 3]'l3).toNat:Int) < 192:=by omega
  have hv:((64 * (64 * (64 * (U.at' s i - 240) + U.at' s (i + 1) - 128) + U.at' s (i + 2) - 128) + U.at' s (i + 3) - 128:Nat):Int)=64 * (64 * (64 * (((s[i]'hlt).toNat:Int) - 240) + ((s[i + 1]'l1).toNat:Int) - 128) + ((s[i + 2]'l2).toNat:Int) - 128) + ((s[i + 3]'l3).toNat:Int) - 128:=by omega
  generalize hV:64 * (64 * (64 * (U.at' s i - 240) + U.at' s (i + 1) - 128) + U.at' s (i + 2) - 128) + U.at' s (i + 3) - 128=V at *
  by_cases hok:65536≤V∧V≤1114111
  · have hd':Utf8.decode s i=(V,4):=by rw [hd,if_pos ⟨⟨t1,t2,t3⟩,hok⟩]
    have E:=Hid.intro (some3 (x:=64 * (64 * (64 * (((s[i]'hlt).toNat:Int) - 240) + ((s[i + 1]'l1).toNat:Int) - 128) + ((s[i + 2]'l2).toNat:Int) - 128) + ((s[i + 3]'l3).toNat:Int) - 128) (y:=4) (by omega) (by omega) hd' (by decide) hv.symm (by rfl))
    have d1:(65536:Int)≤64 * (64 * (64 * (((s[i]'hlt).toNat:Int) - 240) + ((s[i + 1]'l1).toNat:Int) - 128) + ((s[i + 2]'l2).toNat:Int) - 128) + ((s[i + 3]'l3).toNat:Int) - 128:=by omega
    have d3:64 * (64 * (64 * (((s[i]'hlt).toNat:Int) - 240) + ((s[i + 1]'l1).toNat:Int) - 128) + ((s[i + 2]'l2).toNat:Int) - 128) + ((s[i + 3]'l3).toNat:Int) - 128≤1114111:=by omega
    have d2:57344≤64 * (64 * (64 * (((s[i]'hlt).toNat:Int) - 240) + ((s[i + 1]'l1).toNat:Int) - 128) + ((s[i + 2]'l2).toNat:Int) - 128) + ((s[i + 3]'l3).toNat:Int) - 128:=by omega
    clear hok hV hv
    clear hd hd' hg h1 h2 g1 q1 g2 q2 g3 q3
    go_enter Tryz.func118,Tryz.ntmps118
    go_wp2
    refine wp_loop_rounds 4 ?_
    rw [rounds_succ]
    go_wp2_with (go_at_call 138;refine (tail_at s (i + 1) _ _ (by omega) hs (by omega)).mono ?_;rintro e w' ⟨rfl,rfl⟩)
    rw [rounds_succ]
    go_wp2_with (go_at_call 138;refine (tail_at s (i + 2) _ _ (by omega) hs (by omega)).mono ?_;rintro e w' ⟨rfl,rfl⟩)
    rw [rounds_succ]
    go_wp2_with (go_at_call 138;refine (tail_at s (i + 3) _ _ (by omega) hs (by omega)).mono ?_;rintro e w' ⟨rfl,rfl⟩)
    rw [rounds_succ]
    go_wp2
    go_ret3
    exact ⟨E.out,rfl⟩
  · have hd':Utf8.decode s i=(65533,1):=by rw [hd,if_neg (fun h=>hok h.2)]
    have E:=Hid.intro (none3 (by omega) (by omega) hd')
    by_cases hlow:V < 65536
    · have d1:64 * (64 * (64 * (((s[i]'hlt).toNat:Int) - 240) + ((s[i + 1]'l1).toNat:Int) - 128) + ((s[i + 2]'l2).toNat:Int) - 128) + ((s[i + 3]'l3).toNat:Int) - 128 < 65536:=by omega
      clear hok hlow hV hv
      clear hd hd' hg h1 h2 g1 q1 g2 q2 g3 q3
      go_enter Tryz.func118,Tryz.ntmps118
      go_wp2
      refine wp_loop_rounds 4 ?_
      rw [rounds_succ]
      go_wp2_with (go_at_call 138;refine (tail_at s (i + 1) _ _ (by omega) hs (by omega)).mono ?_;rintro e w' ⟨rfl,rfl⟩)
      rw [rounds_succ]
      go_wp2_with (go_at_call 138;refine (tail_at s (i + 2) _ _ (by omega) hs (by omega)).mono ?_;rintro e w' ⟨rfl,rfl⟩)
      rw [rounds_succ]
      go_wp2_with (go_at_call 138;refine (tail_at s (i + 3) _ _ (by omega) hs (by omega)).mono ?_;rintro e w' ⟨rfl,rfl⟩)
      rw [rounds_succ]
      go_wp2
      go_ret3
      exact ⟨E.out,rfl⟩
    · have d1:(1114111:Int) < 64 * (64 * (64 * (((s[i]'hlt).toNat:Int) - 240) + ((s[i + 1]'l1).toNat:Int) - 128) + ((s[i + 2]'l2).toNat:Int) - 128) + ((s[i + 3]'l3).toNat:Int) - 128:=by omega
      clear hok hlow hV hv
      clear hd hd' hg h1 h2 g1 q1 g2 q2 g3 q3
      go_enter Tryz.func118,Tryz.ntmps118
      go_wp2
      refine wp_loop_rounds 4 ?_
      rw [rounds_succ]
      go_wp2_with (go_at_call 138;refine (tail_at s (i + 1) _ _ (by omega) hs (by omega)).mono ?_;rintro e w' ⟨rfl,rfl⟩)
      rw [rounds_succ]
      go_wp2_with (go_at_call 138;refine (tail_at s (i + 2) _ _ (by omega) hs (by omega)).mono ?_;rintro e w' ⟨rfl,rfl⟩)
      rw [rounds_succ]
      go_wp2_with (go_at_call 138;refine (tail_at s (i + 3) _ _ (by omega) hs (by omega)).mono ?_;rintro e w' ⟨rfl,rfl⟩)
      rw [rounds_succ]
      go_wp2
      go_ret3
      exact ⟨E.out,rfl⟩
theorem next_any (s:ByteArray) (i:Nat) (w:World) (hs:s.size≤1000000) (hlt:i < s.size) :
    Calls Tryz.prog 118 #[.string s,.int .i64 i] w fun e w'=>e=.returned (.tuple #[.int .i64 (Utf8.decode s i).1,.int .i64 (Utf8.decode s i).2,.bool (wellAt s i)])∧w'=w:=by
  by_cases h1:U.at' s i < 128
  · exact next_one s i w hs hlt h1
  by_cases h2:U.at' s i < 192 ∨ 248≤U.at' s i
  · exact next_bad s i w hs hlt (by omega) h2
  by_cases h3:U.at' s i < 224
  · rcases Bool.eq_false_or_eq_true (U.tl s (i + 1)) with t1 | t1
    · exact next_2_yes s i w hs hlt (by omega) h3 t1
    · exact next_2_no1 s i w hs hlt (by omega) h3 t1
  by_cases h4:U.at' s i < 240
  · rcases Bool.eq_false_or_eq_true (U.tl s (i + 1)) with t1 | t1
    · rcases Bool.eq_false_or_eq_true (U.tl s (i + 2)) with t2 | t2
      · exact next_3_yes s i w hs hlt (by omega) h4 t1 t2
      · exact next_3_no2 s i w hs hlt (by omega) h4 t1 t2
    · exact next_3_no1 s i w hs hlt (by omega) h4 t1
  · rcases Bool.eq_false_or_eq_true (U.tl s (i + 1)) with t1 | t1
    · rcases Bool.eq_false_or_eq_true (U.tl s (i + 2)) with t2 | t2
      · rcases Bool.eq_false_or_eq_true (U.tl s (i + 3)) with t3 | t3
        · exact next_4_yes s i w hs hlt (by omega) (by omega) t1 t2 t3
        · exact next_4_no3 s i w hs hlt (by omega) (by omega) t1 t2 t3
      · exact next_4_no2 s i w hs hlt (by omega) (by omega) t1 t2
    · exact next_4_no1 s i w hs hlt (by omega) (by omega) t1
end Go.Proofs.YtpgcidpghmoibaaGreatDoor

namespace Go.Proofs.YtpgcidpghmoibaaGreatDoor
namespace Rf
open Go.RowKit
open G (PNode)
def CharPost (w:World) (b:Nat) (s:ByteArray) (S:Nat→Prop) (st:St) (r:Option (Nat × Nat)) (e:Ending) (w':World):Prop:=
  Evo w S w' S∧match r with
  | some (x,j)=>e=.returned (.int .i64 (x:Int))∧Rd w' b s S { st with i:=j }
  | none=>∃ x m:Nat,e=.returned (.int .i64 (x:Int))∧m≤st.i + 10∧Rd w' b s S { st with i:=m,err:=2,place:=st.i }
set_option maxRecDepth 100000 in
set_option maxHeartbeats 2000000 in
theorem escape_self (w:World) (b:Nat) (s:ByteArray) (S:Nat→Prop) (st:St) (hR:Rd w b s S st) (hs:s.size≤2000) (hi:st.i < s.size) (h0:st.err=0)
    (hself:G.self (G.pk s (st.i + 1))=true) :
    Calls Tryz.prog 164 #[.pointer (some ⟨b,0,none⟩)] w fun e w'=>CharPost w b s S st (G.esc s st.i) e w':=by
  obtain ⟨hSb,_⟩:=hR.inS
  obtain ⟨c0,c1,c2,c3,c4,fr⟩:=hR.reads
  have hsee:seeV s { st with i:=st.i + 1 }=G.pk s (st.i + 1):=seeV_ok (st:={ st with i:=st.i + 1 }) h0
  have R2:∀ n,Rd (((w.setCell ⟨b,1,none⟩ (.int .i64 ((st.i:Int) + 1))).drewN n).setCell ⟨b,1,none⟩ (.int .i64 ((st.i:Int) + 1 + 1))) b s S { st with i:=st.i + 2 }:=fun n=>(hR.inc.drewN n).inc
  have E2:∀ n,Evo w S (((w.setCell ⟨b,1,none⟩ (.int .i64 ((st.i:Int) + 1))).drewN n).setCell ⟨b,1,none⟩ (.int .i64 ((st.i:Int) + 1 + 1))) S:=fun n=>(((Evo.refl w S).set hSb (.inl hSb) _ _).drewN n).set hSb (.inl hSb) _ _
  have HE:Hid _:=And.intro R2 E2
  clear R2 E2
  have he:G.esc s st.i=some ((G.pk s (st.i + 1)).toNat,st.i + 2):=by simp [G.esc,hself]
  rw [he]
  have hc:=hself
  simp only [G.self,decide_eq_true_eq] at hc
  clear hself he
  generalize G.pk s (st.i + 1)=c at hc hsee ⊢
  rcases hc with rfl | rfl | rfl | rfl | rfl | rfl
  all_goals
    go_enter Tryz.func164,Tryz.ntmps164
    go_wp2_with (go_at_call 107;refine (see_any _ b s S _ hR.inc hs (by show st.i + 1≤_;omega)).mono ?_;rw [hsee];rintro e w' ⟨rfl,n2,rfl⟩)
    go_ret
    exact ⟨HE.out.2 _,rfl,HE.out.1 _⟩
set_option maxRecDepth 100000 in
set_option maxHeartbeats 2000000 in
theorem escape_n (w:World) (b:Nat) (s:ByteArray) (S:Nat→Prop) (st:St) (hR:Rd w b s S st) (hs:s.size≤2000) (hi:st.i < s.size) (h0:st.err=0)
    (hself:¬ G.self (G.pk s (st.i + 1))=true) (hn:G.pk s (st.i + 1)=110) :
    Calls Tryz.prog 164 #[.pointer (some ⟨b,0,none⟩)] w fun e w'=>CharPost w b s S st (G.esc s st.i) e w':=by
  obtain ⟨hSb,_⟩:=hR.inS
  obtain ⟨c0,c1,c2,c3,c4,fr⟩:=hR.reads
  have hsee:seeV s { st with i:=st.i + 1 }=G.pk s (st.i + 1):=seeV_ok (st:={ st with i:=st.i + 1 }) h0
  have R2:∀ n,Rd (((w.setCell ⟨b,1,none⟩ (.int .i64 ((st.i:Int) + 1))).drewN n).setCell ⟨b,1,none⟩ (.int .i64 ((st.i:Int) + 1 + 1))) b s S { st with i:=st.i + 2 }:=fun n=>(hR.inc.drewN n).inc
  have E2:∀ n,Evo w S (((w.setCell ⟨b,1,none⟩ (.int .i64 ((st.i:Int) + 1))).drewN n).setCell ⟨b,1,none⟩ (.int .i64 ((st.i:Int) + 1 + 1))) S:=fun n=>(((Evo.refl w S).set hSb (.inl hSb) _ _).drewN n).set hSb (.inl hSb) _ _
  have HE:Hid _:=And.intro R2 E2
  clear R2 E2
  have he:G.esc s st.i=some (10,st.i + 2):=by unfold G.esc;rw [if_neg hself,if_pos hn]
  rw [he]
  rw [hn] at hsee
  clear hself he
  go_enter Tryz.func164,Tryz.ntmps164
  go_wp2_with (go_at_call 107;refine (see_any _ b s S _ hR.inc hs (by show st.i + 1≤_;omega)).mono ?_;rw [hsee];rintro e w' ⟨rfl,n2,rfl⟩)
  go_ret
  exact ⟨HE.out.2 _,rfl,HE.out.1 _⟩
set_option maxRecDepth 100000 in
set_option maxHeartbeats 2000000 in
theorem escape_t (w:World) (b:Nat) (s:ByteArray) (S:Nat→Prop) (st:St) (hR:Rd w b s S st) (hs:s.size≤2000) (hi:st.i < s.size) (h0:st.err=0)
    (hself:¬ G.self (G.pk s (st.i + 1))=true) (hn:¬ G.pk s (st.i + 1)=110) (ht:G.pk s (st.i + 1)=116) :
    Calls Tryz.prog 164 #[.pointer (some ⟨b,0,none⟩)] w fun e w'=>CharPost w b s S st (G.esc s st.i) e w':=by
  obtain ⟨hSb,_⟩:=hR.inS
  obtain ⟨c0,c1,c2,c3,c4,fr⟩:=hR.reads
  have hsee:seeV s { st with i:=st.i + 1 }=G.pk s (st.i + 1):=seeV_ok (st:={ st with i:=st.i + 1 }) h0
  have R2:∀ n,Rd (((w.setCell ⟨b,1,none⟩ (.int .i64 ((st.i:Int) + 1))).drewN n).setCell ⟨b,1,none⟩ (.int .i64 ((st.i:Int) + 1 + 1))) b s S { st with i:=st.i + 2 }:=fun n=>(hR.inc.drewN n).inc
  have E2:∀ n,Evo w S (((w.setCell ⟨b,1,none⟩ (.int .i64 ((st.i:Int) + 1))).drewN n).setCell ⟨b,1,none⟩ (.int .i64 ((st.i:Int) + 1 + 1))) S:=fun n=>(((Evo.refl w S).set hSb (.inl hSb) _ _).drewN n).set hSb (.inl hSb) _ _
  have HE:Hid _:=And.intro R2 E2
  clear R2 E2
  have he:G.esc s st.i=some (9,st.i + 2):=by unfold G.esc;rw [if_neg hself,if_neg hn,if_pos ht]
  rw [he]
  rw [ht] at hsee
  clear hself he hn
  go_enter Tryz.func164,Tryz.ntmps164
  go_wp2_with (go_at_call 107;refine (see_any _ b s S _ hR.inc hs (by show st.i + 1≤_;omega)).mono ?_;rw [hsee];rintro e w' ⟨rfl,n2,rfl⟩)
  go_ret
  exact ⟨HE.out.2 _,rfl,HE.out.1 _⟩
end Rf
end Go.Proofs.YtpgcidpghmoibaaGreatDoor

namespace Go.Proofs.YtpgcidpghmoibaaGreatDoor
namespace Rf
open Go.RowKit
open G (PNode)
set_option maxRecDepth 100000 in
set_option maxHeartbeats 2000000 in
theorem escape_u_ok (w:World) (b:Nat) (s:ByteArray) (S:Nat→Prop) (st:St) (hR:Rd w b s S st) (hs:s.size≤2000) (_hi:st.i < s.size) (h0:st.err=0)
    (hself:¬ G.self (G.pk s (st.i + 1))=true) (hn:¬ G.pk s (st.i + 1)=110) (ht:¬ G.pk s (st.i + 1)=116) (hu:G.pk s (st.i + 1)=117) (h6:st.i + 6≤s.size) (hok:G.hexs s (st.i + 2)=true∧(G.hexv s (st.i + 2) < 55296 ∨ 57344≤G.hexv s (st.i + 2))) :
    Calls Tryz.prog 164 #[.pointer (some ⟨b,0,none⟩)] w fun e w'=>CharPost w b s S st (G.esc s st.i) e w':=by
  obtain ⟨hSb,_⟩:=hR.inS
  obtain ⟨c0,c1,c2,c3,c4,fr⟩:=hR.reads
  have hsee:seeV s { st with i:=st.i + 1 }=G.pk s (st.i + 1):=seeV_ok (st:={ st with i:=st.i + 1 }) h0
  have R2:∀ n,Rd (((w.setCell ⟨b,1,none⟩ (.int .i64 ((st.i:Int) + 1))).drewN n).setCell ⟨b,1,none⟩ (.int .i64 ((st.i:Int) + 1 + 1))) b s S { st with i:=st.i + 2 }:=fun n=>(hR.inc.drewN n).inc
  have E2:∀ n,Evo w S (((w.setCell ⟨b,1,none⟩ (.int .i64 ((st.i:Int) + 1))).drewN n).setCell ⟨b,1,none⟩ (.int .i64 ((st.i:Int) + 1 + 1))) S:=fun n=>(((Evo.refl w S).set hSb (.inl hSb) _ _).drewN n).set hSb (.inl hSb) _ _
  have HE:Hid _:=And.intro R2 E2
  clear R2 E2
  rw [hu] at hsee
  have hv:=hexV_extract s (st.i + 2) (by omega)
  have he:G.esc s st.i=some (G.hexv s (st.i + 2),st.i + 6):=by unfold G.esc;rw [if_neg hself,if_neg hn,if_neg ht,if_pos ⟨hu,h6,hok.1,hok.2⟩]
  rw [he]
  rw [if_pos hok.1] at hv
  have hvb:=G.hexv_le s _ hok.1
  have hv2:=hok.2
  clear hself he hn ht hok
  generalize G.hexv s (st.i + 2)=v at hv hvb hv2 ⊢
  go_enter Tryz.func164,Tryz.ntmps164
  go_wp2_with (go_at_call 107;refine (see_any _ b s S _ hR.inc hs (by show st.i + 1≤_;omega)).mono ?_;rw [hsee];rintro e w' ⟨rfl,n2,rfl⟩)
  go_quiet (fail)
  go_wp2
  have g1:(0:Int)≤(st.i:Int) + 1 + 1:=by omega
  have g2:(st.i:Int) + 1 + 1≤(st.i:Int) + 1 + 1 + 4:=by omega
  have g3:(st.i:Int) + 1 + 1 + 4≤(s.size:Int):=by omega
  refine wp_region_quiet_lit (by kernel_rfl) (by kernel_rfl) ?_
  repeat (first
    | go_big_quiet_step ((go_at_call 172;refine (hex_any _ _ (by rw [ByteArray.size_extract];omega)).mono ?_;rintro e w' ⟨rfl,rfl⟩;exact ⟨rfl,_,rfl⟩))
    | quiet_step ((go_at_call 172;refine (hex_any _ _ (by rw [ByteArray.size_extract];omega)).mono ?_;rintro e w' ⟨rfl,rfl⟩;exact ⟨rfl,_,rfl⟩)))
  refine wpQuiet_nil ?_
  intro _ hw'
  obtain ⟨nq,hw''⟩:=hw'
  subst hw''
  rw [show st.i + 1 + 1=st.i + 2 from rfl,hv]
  go_wp2
  all_goals
    go_ret
    exact ⟨((HE.out.2 _).drewN _).set hSb (.inl hSb) _ _,rfl,((HE.out.1 _).drewN _).setI (st.i + 6)⟩
end Rf
end Go.Proofs.YtpgcidpghmoibaaGreatDoor
