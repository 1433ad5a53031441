/- Nv3 Nv4 Nv5 -/
import Derived.Test.YtdgbgmffpcooeaaGreatV48
namespace Go.Proofs.YtdgbgmffpcooeaaGreat
section
open Go.RowKit Go.Lib
end
section
open Go.RowKit Go.Lib
end
section
open Go.RowKit Go.Lib
end
end Go.Proofs.YtdgbgmffpcooeaaGreat
