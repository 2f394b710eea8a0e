/- clean: sievekeep's walk. -/
import Derived.Test.YtldongbimhngfaaKv6
import Derived.Test.YtldongbimhngfaaKv7
import Derived.Test.YtldongbimhngfaaKv8
import Derived.Test.YtldongbimhngfaaKv9
namespace Go.Proofs.Ytldongbimhngfaa
open Go.RowKit
set_option linter.unusedVariables false
set_option linter.unusedSimpArgs false

theorem kClean_any (w : World) (sa : Option Addr) (sc : Nat) (L : List Sc.In) (hI : InsAt w sa L) (hs : SoundList L) (b : Int) (hok : CleanOk b L) :
    Calls Try.prog 35 #[.slice sa L.length sc, .int .u8 b] w fun e w' => e = .returned (.bool true) ∧ w.grownBy w' none := by
  rcases hok with ⟨rfl, h⟩ | ⟨rfl, h⟩ | ⟨rfl, h⟩ | ⟨rfl, h⟩
  · exact kClean_100 w sa sc L hI hs h
  · exact kClean_106 w sa sc L hI hs h
  · exact kClean_108 w sa sc L hI hs h
  · exact kClean_107 w sa sc L hI hs h
end Go.Proofs.Ytldongbimhngfaa
