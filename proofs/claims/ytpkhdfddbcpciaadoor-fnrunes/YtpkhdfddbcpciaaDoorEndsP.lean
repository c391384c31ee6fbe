/- What Ends answers. -/
import Derived.Test.YtpkhdfddbcpciaaDoorPlain1
import Derived.Test.YtpkhdfddbcpciaaDoorPlain7
import Derived.Test.YtpkhdfddbcpciaaDoorBytes
namespace Go.Proofs.YtpkhdfddbcpciaaDoor
open Plain7

def endsOf (s : ByteArray) : List UInt8 := if 4000 < s.size then [] else endsE s.data.toList
end Go.Proofs.YtpkhdfddbcpciaaDoor
