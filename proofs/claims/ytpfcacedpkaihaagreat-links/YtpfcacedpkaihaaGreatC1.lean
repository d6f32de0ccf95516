import Derived.Below
namespace Go.Proofs.YtpfcacedpkaihaaGreat
open Go.RowKit
set_option maxRecDepth 100000
set_option maxHeartbeats 16000000
theorem hid {p:Prop}(h:p):Hid p:=h
end Go.Proofs.YtpfcacedpkaihaaGreat
