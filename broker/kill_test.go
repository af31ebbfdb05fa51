package broker_test

import (
	"testing"

	"cordwain/api"
	"cordwain/broker"
)

func TestKill(t *testing.T) { // for the packages below
	b, _ := begun(t, config())
	b.Kill()
	refuses(t, b, api.Request{Kind: api.RMeta}, api.ErrOff)
	if !b.Dead() || b.Tick(1) != api.ErrOff {
		t.Error("not dead")
	}
	var none *broker.Broker
	none.Kill()
}
