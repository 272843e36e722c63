
/- What comes in: bytes. -/
import Derived.Test.YtfmombbembiagaaBase
import Derived.Test.YtfmombbembiagaaIno
namespace Go.Proofs.Ytfmombbembiagaa
open Go.ChangeShapes Go.WideShapes Go.ChangeAt Go.RowKit Go.Deep

section
variable {H : Type} {enc : TypeId × Value → H} {W : World} {held : Bool}

theorem bytesOf5 : Try.prog.bytesOf 5 = 1 := by kernel_rfl

end

section
variable {H : Type} {enc : TypeId × Value → H} {W : World} {held : Bool}
end

end Go.Proofs.Ytfmombbembiagaa
