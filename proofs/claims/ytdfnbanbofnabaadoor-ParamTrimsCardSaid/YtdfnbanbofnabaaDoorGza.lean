/- The document's Plain. No premises. -/
import Derived.Test.YtdfnbanbofnabaaDoorGz
namespace Go.Proofs.YtdfnbanbofnabaaDoor
open Go.RowKit Go.Maps
namespace Gr
open Gs
end Gr
end Go.Proofs.YtdfnbanbofnabaaDoor
