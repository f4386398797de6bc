/- What the laws over two numbers share. -/
import Derived.Test.YtciohlbpjaighaaDoorNumKit
import Derived.Test.YtciohlbpjaighaaDoorTwoNum
import Derived.Test.YtciohlbpjaighaaDoorKnown
namespace Go.Proofs.YtciohlbpjaighaaDoor
end Go.Proofs.YtciohlbpjaighaaDoor
